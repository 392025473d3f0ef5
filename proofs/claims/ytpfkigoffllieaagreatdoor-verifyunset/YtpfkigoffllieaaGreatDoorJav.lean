/- An instruction run in its state: the copies that it works on. -/
import Derived.Test.YtpfkigoffllieaaGreatDoorJat
import Derived.Test.YtpfkigoffllieaaGreatDoorJau
namespace Go.Proofs.YtpfkigoffllieaaGreatDoor
open Go.ChangeShapes Go.WideShapes Go.ChangeAt Go.RowKit
open H (ix NewV)

theorem Copied.keep {w w1 w2 : World} {s s' : Sa} {l t : List Ty} (h : Copied w w1 s s' l t) (hf : Fr no w1 w2) : Copied w w2 s s' l t :=
  ⟨h.r, h.lk, h.lo.keep hf, h.st.keep hf, h.nlo, h.nst, h.ne, h.fr.new hf (fun _ _ f => f)⟩
theorem Copied.base {W w w1 : World} {s s' : Sa} {l t : List Ty} (h : Copied w w1 s s' l t) (hf : Fr no W w) : Copied W w1 s s' l t :=
  ⟨h.r, h.lk, h.lo, h.st, fun k hk => Nat.le_trans hf.size (h.nlo k hk), fun k hk => Nat.le_trans hf.size (h.nst k hk), h.ne, hf.new h.fr (fun _ _ f => f)⟩

/-- .. behind a store into a new block of another kind. -/
theorem Copied.kept1 {W w1 w2 : World} {s s' : Sa} {l t : List Ty} {b : Nat} {cur : Array Value} {ty : TypeId} (h : Copied W w1 s s' l t) (hb : w1.heap[b]? = some (.cells cur ty (0, 0))) (ht : ty ≠ 55) (hl : W.heap.size ≤ b) (hf : Fr (fun k => k = b) w1 w2) : Copied W w2 s s' l t := by
  have nt : ∀ {v : Value} {l : List Ty}, OwnG elTy w1 v l → ∀ k, v.ownBlock = some k → ¬ k = b := fun o k hk e => by
    obtain ⟨cu, hc⟩ := o.tag hk
    rw [e, hb] at hc
    simp only [Option.some.injEq, Obj.cells.injEq] at hc
    exact ht hc.2.1
  exact ⟨h.r, h.lk, h.lo.kept hf (nt h.lo), h.st.kept hf (nt h.st), h.nlo, h.nst, h.ne, h.fr.new hf (fun i hi e => by omega)⟩
theorem bx2 {w : World} {q : Nat} {a0 a1 : Value} {t : TypeId} (h : w.heap[q]? = some (.cells #[a0, a1] t (0, 0))) : w.cell? ⟨q, 0, none⟩ = some a0 ∧ w.cell? ⟨q, 1, none⟩ = some a1 := ⟨cell_at h, cell_at h⟩
theorem bx3 {w : World} {q : Nat} {a0 a1 a2 : Value} {t : TypeId} (h : w.heap[q]? = some (.cells #[a0, a1, a2] t (0, 0))) : w.cell? ⟨q, 0, none⟩ = some a0 ∧ w.cell? ⟨q, 1, none⟩ = some a1 ∧ w.cell? ⟨q, 2, none⟩ = some a2 := ⟨cell_at h, cell_at h, cell_at h⟩

theorem srcTy {w : World} {a : Option Addr} {n c : Nat} {l : List Ty} (h : SlG elTy w (.slice a n c) l) (hc : a = none → c = 0) : Src Tryz.prog elTy.n elTy.t (.slice a n c) l.length (cg elTy l) w := by
  cases a with
  | none =>
    obtain rfl := hc rfl
    have h' := h
    obtain ⟨ad, cap, e, h1, h2, hit⟩ := h
    simp only [Value.slice.injEq] at e
    obtain ⟨rfl, rfl, rfl⟩ := e
    have hl : l = [] := List.eq_nil_of_length_eq_zero (by omega)
    subst hl
    exact Src.ofNil _ okTy.und _
  | some a => exact h.src okTy


def runS (r : Rl) (i : Int × Int) (x : Stt) : Stt :=
  ⟨true, if i.1 = 5 then x.lo.set i.2.toNat (x.st.getD (x.st.length - r.tk.length) top) else x.lo, x.st.take (x.st.length - r.tk.length) ++ (if i.1 = 4 then [x.lo.getD i.2.toNat top] else r.pt)⟩

theorem results_109 (w : World) (r : Nat) (x0 x1 x2 x3 y : Value) (h : w.heap[r]? = some (.cells #[x0, x1, x2, x3] 58 (0, 0))) (tmps : Array Value) (h2 : tmps.getD 4 undef = .pointer (some ⟨r, 0, none⟩)) (h3 : tmps.getD 5 undef = y) :
    (results Tryz.f126 tmps).run Tryz.prog w = .ok (.tuple #[.agg #[x0, x1, x2, x3], y]) w := by
  have hl : (loadVar 58 ⟨r, 0, none⟩).run Tryz.prog w = .ok (.agg #[x0, x1, x2, x3]) w := run_loadVar_row (P := Tryz.prog) w r 58 58 #[x0, x1, x2, x3] (0, 0) _ h Tryz.underlying58 rfl (by kernel_rfl)
  have h2' : tmps[4]?.getD undef = .pointer (some ⟨r, 0, none⟩) := by simpa using h2
  have h3' : tmps[5]?.getD undef = y := by simpa using h3
  simp [results, asAddr, h2', h3', hl]

theorem run_le {r : Rl} {i : Int × Int} {x : Stt} (h : runErr r i x = 0) : ¬ x.st.length < r.tk.length := fun e => by
  unfold runErr at h
  by_cases hn : r.nv = true
  · rw [if_pos hn] at h
    exact absurd h (by decide)
  · rw [if_neg hn, if_pos e] at h
    exact absurd h (by decide)

set_option maxRecDepth 100000 in
set_option maxHeartbeats 8000000 in
theorem run_any (w : World) (f S C c : Nat) (K : Int) (cd : List (Int × Int)) (rl : List Rl) (xs : List Stt) (ch : List Bool) (CN : Con w f S C K cd rl) (FL : Fl w S C c cd.length xs ch)
    (i : Nat) (x : Stt) (hx : xs[i]? = some x) (hr : x.r = true) (r : Rl) (hrl : rl[i]? = some r) (hfit : ∀ t ∈ r.tk, t.k = 1 ∨ t.k = 2 ∨ t.k = 6) (ins : Int × Int) (hins : cd[i]? = some ins)
    (h38 : rd38 ins x.lo) (h7 : ins.1 ≠ 7) (h4 : ins.1 = 4 → 0 ≤ ins.2 ∧ ins.2 < x.lo.length) (h5 : ins.1 = 5 → 0 ≤ ins.2 ∧ ins.2 < x.lo.length ∧ r.tk.length = 1) (hfew : r.tk.length ≤ 1000) (hfew2 : r.pt.length ≤ 1000) :
    Calls Tryz.prog 126 #[.pointer (some ⟨f, 0, none⟩), .int .i64 (i : Int)] w fun e w' => ∃ s', e = .returned (.tuple #[saV s', .int .i64 (runErr r ins x)]) ∧ (runErr r ins x = 0 → s'.r = true ∧ OwnG elTy w' (.slice s'.lo.a s'.lo.n s'.lo.c) (runS r ins x).lo ∧ OwnG elTy w' (.slice s'.st.a s'.st.n s'.st.c) (runS r ins x).st ∧ NewV w (.slice s'.lo.a s'.lo.n s'.lo.c) ∧ NewV w (.slice s'.st.a s'.st.n s'.st.c)) ∧ Fr no w w' := by
  have hil : i < cd.length := (List.getElem?_eq_some_iff.1 hins).1
  have HMR : Hid (∀ w', Fr no w w' → Calls Tryz.prog 140 #[.pointer (some ⟨f, 0, none⟩), .int .i64 (i : Int)] w' fun e w2 => e = .returned (.int .i64 (runErr r ins x)) ∧ Fr no w' w2) := fun w' hf => mayRun_any w' f S C c K cd rl xs ch (CN.keep hf) (FL.keep hf) i x hx hr r hrl hfit ins hins h38 h4 hfew
  have HCN : Hid (∀ w', Fr no w w' → Con w' f S C K cd rl ∧ Fl w' S C c cd.length xs ch) := fun w' hf => ⟨CN.keep hf, FL.keep hf⟩
  obtain ⟨⟨q, a0, -⟩, -, ⟨cb, co, cc, a7, cc1, hcode⟩, -, ⟨R, rs, a10, rs1, rs2, -, rs4⟩, a11, -, -, hfewc⟩ := CN
  obtain ⟨ss, s1, s2, s3, -⟩ := FL.ex
  obtain ⟨sx, hsx⟩ : ∃ sx, ss[i]? = some sx := ⟨_, List.getElem?_eq_getElem (by omega)⟩
  obtain ⟨ru, hru⟩ : ∃ ru, rs[i]? = some ru := ⟨_, List.getElem?_eq_getElem (by omega)⟩
  obtain ⟨rn, rtk, rpt, rpc⟩ := rs4 i ru r hru hrl
  have SA := s3 i sx x hsx hx
  have slo := (SA.lo hr).1.sl okTy
  have sst := (SA.st hr).1.sl okTy
  have hxf := SA.few
  have hcs : ∀ j u, (saC sx)[j]? = some u → w.cell? ⟨S, i * 4 + j, none⟩ = some u := fun j u hj => by
    obtain ⟨ad, cap, e, -, -, hit⟩ := s1.sl okSa
    simp only [Value.slice.injEq] at e
    obtain ⟨rfl, -, -⟩ := e
    obtain ⟨b, off, e, hcs⟩ := hit i sx hsx
    simp only [Option.some.injEq, Addr.mk.injEq, and_true] at e
    obtain ⟨rfl, rfl⟩ := e
    have := hcs j u hj
    rw [Nat.zero_add] at this
    exact this
  have hcr : ∀ j u, (ruC ru)[j]? = some u → w.cell? ⟨R, i * 3 + j, none⟩ = some u := fun j u hj => by
    obtain ⟨ad, cap', e, -, -, hitr⟩ := rs1
    simp only [Value.slice.injEq] at e
    obtain ⟨rfl, -, -⟩ := e
    obtain ⟨b', off', e, hcr⟩ := hitr i ru hru
    simp only [Option.some.injEq, Addr.mk.injEq, and_true] at e
    obtain ⟨rfl, rfl⟩ := e
    have := hcr j u hj
    rw [Nat.zero_add] at this
    exact this
  have hci : ∀ j u, ([.int .i64 ins.1, .int .i64 ins.2] : List Value)[j]? = some u → w.cell? ⟨cb, co + i * 2 + j, none⟩ = some u := fun j u hj => by
    obtain ⟨k1, k2⟩ := hcode i ins hins
    match j, hj with
    | 0, hj => simp at hj; subst hj; exact k1
    | 1, hj => simp at hj; subst hj; exact k2
    | j + 2, hj => simp at hj
  have hii : (i : Int) < (cd.length : Int) := by omega
  have hsr : sx.r = true := SA.r.trans hr
  obtain ⟨nv, ⟨ta, tn, tc⟩, ⟨pa, pn, pc⟩⟩ := ru
  obtain ⟨sr, ⟨la, ln, lc⟩, ⟨sa, sn, sc⟩, ⟨ka, kn, kc⟩⟩ := sx
  simp only at rn rtk rpt rpc slo sst hsr
  obtain rfl : tn = r.tk.length := by obtain ⟨_, _, e, _⟩ := rtk; simp only [Value.slice.injEq] at e; exact e.2.1
  obtain rfl : pn = r.pt.length := by obtain ⟨_, _, e, _⟩ := rpt; simp only [Value.slice.injEq] at e; exact e.2.1
  obtain rfl : ln = x.lo.length := by obtain ⟨_, _, e, _⟩ := slo; simp only [Value.slice.injEq] at e; exact e.2.1
  obtain rfl : sn = x.st.length := by obtain ⟨_, _, e, _⟩ := sst; simp only [Value.slice.injEq] at e; exact e.2.1
  subst hsr rn
  have HK : Hid (∀ w', Fr no w w' → Src Tryz.prog elTy.n elTy.t (.slice pa r.pt.length pc) r.pt.length (cg elTy r.pt) w' ∧ Fr no w w') := fun w' hf => ⟨srcTy (rpt.kept hf) rpc, hf⟩
  have HCP0 : Hid (∀ w', Fr no w w' → Calls Tryz.prog 141 #[.agg #[.bool true, .slice la x.lo.length lc, .slice sa x.st.length sc, .slice ka kn kc]] w' fun e w2 => ∃ s', e = .returned (saV s') ∧ Copied w' w2 ⟨true, ⟨la, x.lo.length, lc⟩, ⟨sa, x.st.length, sc⟩, ⟨ka, kn, kc⟩⟩ s' x.lo x.st) := fun w' hf => copyState_any w' ⟨true, ⟨la, x.lo.length, lc⟩, ⟨sa, x.st.length, sc⟩, ⟨ka, kn, kc⟩⟩ x.lo x.st (slo.kept hf) (sst.kept hf) hxf.1 hxf.2
  have HL0 : Hid (∀ w', Fr no w w' → w'.cell? ⟨f, 7, none⟩ = some (.slice (some ⟨cb, co, none⟩) cd.length cc) ∧ (∀ j u, ([.int .i64 ins.1, .int .i64 ins.2] : List Value)[j]? = some u → w'.cell? ⟨cb, co + i * 2 + j, none⟩ = some u) ∧ w'.cell? ⟨f, 10, none⟩ = some (.slice (some ⟨R, 0, none⟩) cd.length cd.length) ∧ (∀ j u, ([.bool r.nv, .slice ta r.tk.length tc, .slice pa r.pt.length pc] : List Value)[j]? = some u → w'.cell? ⟨R, i * 3 + j, none⟩ = some u) ∧ w'.cell? ⟨f, 11, none⟩ = some (.slice (some ⟨S, 0, none⟩) cd.length cd.length) ∧ (∀ j u, ([.bool true, .slice la x.lo.length lc, .slice sa x.st.length sc, .slice ka kn kc] : List Value)[j]? = some u → w'.cell? ⟨S, i * 4 + j, none⟩ = some u)) := fun w' hf =>
    ⟨hf.cell a7 (fun f => f), fun j u hj => hf.cell (hci j u hj) (fun f => f), hf.cell a10 (fun f => f), fun j u hj => hf.cell (hcr j u hj) (fun f => f), hf.cell a11 (fun f => f), fun j u hj => hf.cell (hcs j u hj) (fun f => f)⟩
  generalize hcl : cd.length = n at *
  have HIX : Hid (∀ w' : World, (Instr.indexAt 24 (.slice (some ⟨cb, co, none⟩) n cc) (.int .i64 (i : Int))).run Tryz.prog w' = .ok (.pointer (some ⟨cb, co + i * 2, none⟩)) w' ∧ (Instr.indexAt 124 (.slice (some ⟨R, 0, none⟩) n n) (.int .i64 (i : Int))).run Tryz.prog w' = .ok (.pointer (some ⟨R, i * 3, none⟩)) w' ∧ (Instr.indexAt 51 (.slice (some ⟨S, 0, none⟩) n n) (.int .i64 (i : Int))).run Tryz.prog w' = .ok (.pointer (some ⟨S, i * 4, none⟩)) w') := fun w' => by
    refine ⟨?_, ?_, ?_⟩
    · simp [go_sem, hii]
    · simp [go_sem, hii]
    · simp [go_sem, hii]
  clear hcs hcr hci hcode s3 rs4 SA FL rtk rpt slo sst s1 hsx hru hx hrl hins a7 a10 a11 a0 rs1
  generalize hW0 : w.alloc (.cells #[.bool false, .slice none 0 0, .slice none 0 0, .slice none 0 0] 58) = W0
  have G0 : Fr no w W0 := by rw [← hW0]; exact (Fr.refl no w).alloc _ _
  have E0 : W0.heap[w.heap.size]? = some (.cells #[.bool false, .slice none 0 0, .slice none 0 0, .slice none 0 0] 58 (0, 0)) := by rw [← hW0]; exact heap_alloc_new w _
  have MR := HMR.out W0 G0
  by_cases he : runErr r ins x = 0
  · have HLE : Hid (¬ x.st.length < r.tk.length) := run_le he
    rw [he] at MR ⊢
    go_enter Tryz.func126, Tryz.ntmps126
    go_wp2_with fail
    refine MR.mono ?_
    rintro e W1 ⟨rfl, F1⟩
    have g01 : Fr no w W1 := G0.new F1 (fun _ _ f => f)
    have HL : Hid (∀ w', Fr no W1 w' → _) := fun w' hf => HL0.out w' (g01.new hf (fun _ _ f => f))
    have HCP : Hid (∀ w', Fr no W1 w' → _) := fun w' hf => HCP0.out w' (g01.new hf (fun _ _ f => f))
    have HE1 : Hid (W1.heap[w.heap.size]? = some (.cells #[.bool false, .slice none 0 0, .slice none 0 0, .slice none 0 0] 58 (0, 0)) ∧ Fr no w W1) := ⟨F1.heap E0 (fun f => f), g01⟩
    have HS0 : Hid (Fr no W1 W1.drew) := (Fr.refl no W1).drew
    clear MR F1 E0 G0 HL0 HCP0 HMR g01
    go_wp2_with fail
    refine late_begin (S := fun w' => Fr no W1 w') (g := 28) (by kernel_rfl) ?_
    refine late_pure 0 (.pointer (some ⟨f, 0, none⟩)) rfl (by kernel_rfl) (by kernel_rfl) (by kernel_rfl) (fun _ _ _ h => h) (by decide) (yields rfl (fun _ _ => ev_move 0 _ rfl (by kernel_rfl))) (fun _ => HS0.out) ?_
    refine late_pure 1 (.pointer (some ⟨f, 0, none⟩)) rfl (by kernel_rfl) (by kernel_rfl) (by kernel_rfl) (fun _ _ _ h => h) (by decide) (yields rfl (fun _ _ => ev_nil 19 ⟨f, 0, none⟩ rfl (by kernel_rfl))) (fun _ => HS0.out) ?_
    refine late_pure 2 (.pointer (some ⟨f, 1, none⟩)) rfl (by kernel_rfl) (by kernel_rfl) (by kernel_rfl) (fun _ _ _ h => h) (by decide) (yields rfl (fun _ _ => ev_field 126 20 1 (.pointer (some ⟨f, 0, none⟩)) _ rfl (by kernel_rfl) (by kernel_rfl))) (fun _ => HS0.out) ?_
    refine late_pure 3 (.pointer (some ⟨f, 7, none⟩)) rfl (by kernel_rfl) (by kernel_rfl) (by kernel_rfl) (fun _ _ _ h => h) (by decide) (yields rfl (fun _ _ => ev_field 64 21 5 (.pointer (some ⟨f, 1, none⟩)) _ rfl (by kernel_rfl) (by kernel_rfl))) (fun _ => HS0.out) ?_
    refine late_take 4 (.slice (some ⟨cb, co, none⟩) n cc) rfl (by kernel_rfl) (by kernel_rfl) (by kernel_rfl) (fun _ _ _ h => h) (waits_of (by kernel_rfl)) (by decide) (by kernel_rfl) (yields rfl (fun w' hS => ev_load 24 22 (.pointer (some ⟨f, 7, none⟩)) _ rfl (by kernel_rfl) (by simp [go_sem, (HL.out w' hS).1]))) (HS0.out) ?_
    refine late_pure 5 (.int .i64 (i : Int)) rfl (by kernel_rfl) (by kernel_rfl) (by kernel_rfl) (fun _ _ _ h => h) (by decide) (yields rfl (fun _ _ => ev_move 1 _ rfl (by kernel_rfl))) (fun _ => HS0.out) ?_
    refine late_pure 6 (.pointer (some ⟨cb, co + i * 2, none⟩)) rfl (by kernel_rfl) (by kernel_rfl) (by kernel_rfl) (fun _ _ _ h => h) (by decide) (yields rfl (fun _ _ => ev_index 24 23 24 (.slice (some ⟨cb, co, none⟩) n cc) (.int .i64 (i : Int)) _ rfl (by kernel_rfl) (by kernel_rfl) (HIX.out _).1)) (fun _ => HS0.out) ?_
    refine late_take 7 (.agg #[.int .i64 ins.1, .int .i64 ins.2]) rfl (by kernel_rfl) (by kernel_rfl) (by kernel_rfl) (fun _ _ _ h => h) (waits_of (by kernel_rfl)) (by decide) (by kernel_rfl) (yields rfl (fun w' hS => ev_load 26 25 (.pointer (some ⟨cb, co + i * 2, none⟩)) _ rfl (by kernel_rfl) (run_loadAt_mid (P := Tryz.prog) w' cb (co + i * 2) 26 [.int .i64 ins.1, .int .i64 ins.2] _ (HL.out w' hS).2.1 Tryz.underlying26 rfl (by kernel_rfl)))) (HS0.out) ?_
    refine late_pure 8 (.pointer (some ⟨f, 0, none⟩)) rfl (by kernel_rfl) (by kernel_rfl) (by kernel_rfl) (fun _ _ _ h => h) (by decide) (yields rfl (fun _ _ => ev_move 0 _ rfl (by kernel_rfl))) (fun _ => HS0.out) ?_
    refine late_pure 9 (.pointer (some ⟨f, 0, none⟩)) rfl (by kernel_rfl) (by kernel_rfl) (by kernel_rfl) (fun _ _ _ h => h) (by decide) (yields rfl (fun _ _ => ev_nil 27 ⟨f, 0, none⟩ rfl (by kernel_rfl))) (fun _ => HS0.out) ?_
    refine late_pure 10 (.pointer (some ⟨f, 10, none⟩)) rfl (by kernel_rfl) (by kernel_rfl) (by kernel_rfl) (fun _ _ _ h => h) (by decide) (yields rfl (fun _ _ => ev_field 126 28 3 (.pointer (some ⟨f, 0, none⟩)) _ rfl (by kernel_rfl) (by kernel_rfl))) (fun _ => HS0.out) ?_
    refine late_take 11 (.slice (some ⟨R, 0, none⟩) n n) rfl (by kernel_rfl) (by kernel_rfl) (by kernel_rfl) (fun _ _ _ h => h) (waits_of (by kernel_rfl)) (by decide) (by kernel_rfl) (yields rfl (fun w' hS => ev_load 124 29 (.pointer (some ⟨f, 10, none⟩)) _ rfl (by kernel_rfl) (by simp [go_sem, (HL.out w' hS).2.2.1]))) (HS0.out) ?_
    refine late_pure 12 (.int .i64 (i : Int)) rfl (by kernel_rfl) (by kernel_rfl) (by kernel_rfl) (fun _ _ _ h => h) (by decide) (yields rfl (fun _ _ => ev_move 1 _ rfl (by kernel_rfl))) (fun _ => HS0.out) ?_
    refine late_pure 13 (.pointer (some ⟨R, i * 3, none⟩)) rfl (by kernel_rfl) (by kernel_rfl) (by kernel_rfl) (fun _ _ _ h => h) (by decide) (yields rfl (fun _ _ => ev_index 124 30 31 (.slice (some ⟨R, 0, none⟩) n n) (.int .i64 (i : Int)) _ rfl (by kernel_rfl) (by kernel_rfl) (HIX.out _).2.1)) (fun _ => HS0.out) ?_
    refine late_take 14 (.agg #[.bool r.nv, .slice ta r.tk.length tc, .slice pa r.pt.length pc]) rfl (by kernel_rfl) (by kernel_rfl) (by kernel_rfl) (fun _ _ _ h => h) (waits_of (by kernel_rfl)) (by decide) (by kernel_rfl) (yields rfl (fun w' hS => ev_load 166 32 (.pointer (some ⟨R, i * 3, none⟩)) _ rfl (by kernel_rfl) (run_loadAt_mid (P := Tryz.prog) w' R (i * 3) 166 [.bool r.nv, .slice ta r.tk.length tc, .slice pa r.pt.length pc] _ (HL.out w' hS).2.2.2.1 Tryz.underlying166 rfl (by kernel_rfl)))) (HS0.out) ?_
    refine late_pure 15 (.pointer (some ⟨f, 0, none⟩)) rfl (by kernel_rfl) (by kernel_rfl) (by kernel_rfl) (fun _ _ _ h => h) (by decide) (yields rfl (fun _ _ => ev_move 0 _ rfl (by kernel_rfl))) (fun _ => HS0.out) ?_
    refine late_pure 16 (.pointer (some ⟨f, 0, none⟩)) rfl (by kernel_rfl) (by kernel_rfl) (by kernel_rfl) (fun _ _ _ h => h) (by decide) (yields rfl (fun _ _ => ev_nil 34 ⟨f, 0, none⟩ rfl (by kernel_rfl))) (fun _ => HS0.out) ?_
    refine late_pure 17 (.pointer (some ⟨f, 11, none⟩)) rfl (by kernel_rfl) (by kernel_rfl) (by kernel_rfl) (fun _ _ _ h => h) (by decide) (yields rfl (fun _ _ => ev_field 126 35 4 (.pointer (some ⟨f, 0, none⟩)) _ rfl (by kernel_rfl) (by kernel_rfl))) (fun _ => HS0.out) ?_
    refine late_take 18 (.slice (some ⟨S, 0, none⟩) n n) rfl (by kernel_rfl) (by kernel_rfl) (by kernel_rfl) (fun _ _ _ h => h) (waits_of (by kernel_rfl)) (by decide) (by kernel_rfl) (yields rfl (fun w' hS => ev_load 51 36 (.pointer (some ⟨f, 11, none⟩)) _ rfl (by kernel_rfl) (by simp [go_sem, (HL.out w' hS).2.2.2.2.1]))) (HS0.out) ?_
    refine late_pure 19 (.int .i64 (i : Int)) rfl (by kernel_rfl) (by kernel_rfl) (by kernel_rfl) (fun _ _ _ h => h) (by decide) (yields rfl (fun _ _ => ev_move 1 _ rfl (by kernel_rfl))) (fun _ => HS0.out) ?_
    refine late_pure 20 (.pointer (some ⟨S, i * 4, none⟩)) rfl (by kernel_rfl) (by kernel_rfl) (by kernel_rfl) (fun _ _ _ h => h) (by decide) (yields rfl (fun _ _ => ev_index 51 37 38 (.slice (some ⟨S, 0, none⟩) n n) (.int .i64 (i : Int)) _ rfl (by kernel_rfl) (by kernel_rfl) (HIX.out _).2.2)) (fun _ => HS0.out) ?_
    refine late_take 21 (.agg #[.bool true, .slice la x.lo.length lc, .slice sa x.st.length sc, .slice ka kn kc]) rfl (by kernel_rfl) (by kernel_rfl) (by kernel_rfl) (fun _ _ _ h => h) (waits_of (by kernel_rfl)) (by decide) (by kernel_rfl) (yields rfl (fun w' hS => ev_load 58 39 (.pointer (some ⟨S, i * 4, none⟩)) _ rfl (by kernel_rfl) (run_loadAt_mid (P := Tryz.prog) w' S (i * 4) 58 [.bool true, .slice la x.lo.length lc, .slice sa x.st.length sc, .slice ka kn kc] _ (HL.out w' hS).2.2.2.2.2 Tryz.underlying58 rfl (by kernel_rfl)))) (HS0.out) ?_
    refine with_cont (m := 3) (Sa × Nat × Nat × Nat) #[true, true, true, true, true, true, true, true, true, true, true, true, true, true, true, true, true, true, true, true, true, true, true, true, true, true, false, false, false] (fun p => { tmps := #[.pointer (some ⟨f, 0, none⟩), .int .i64 (i : Int), undef, undef, .pointer (some ⟨w.heap.size, 0, none⟩), .int .i64 0, .int .i64 0, .pointer (some ⟨p.2.1, 0, none⟩), .pointer (some ⟨p.2.2.1, 0, none⟩), .pointer (some ⟨p.2.2.2, 0, none⟩), undef, undef, .pointer (some ⟨f, 0, none⟩), .int .i64 (i : Int), .int .i64 0, .int .i64 0, .bool false, undef, undef, .pointer (some ⟨f, 0, none⟩), .pointer (some ⟨f, 0, none⟩), .pointer (some ⟨f, 1, none⟩), .pointer (some ⟨f, 7, none⟩), .slice (some ⟨cb, co, none⟩) n cc, .int .i64 (i : Int), .pointer (some ⟨cb, co + i * 2, none⟩), .agg #[.int .i64 ins.1, .int .i64 ins.2], .pointer (some ⟨f, 0, none⟩), .pointer (some ⟨f, 0, none⟩), .pointer (some ⟨f, 10, none⟩), .slice (some ⟨R, 0, none⟩) n n, .int .i64 (i : Int), .pointer (some ⟨R, i * 3, none⟩), .agg #[.bool r.nv, .slice ta r.tk.length tc, .slice pa r.pt.length pc], .pointer (some ⟨f, 0, none⟩), .pointer (some ⟨f, 0, none⟩), .pointer (some ⟨f, 11, none⟩), .slice (some ⟨S, 0, none⟩) n n, .int .i64 (i : Int), .pointer (some ⟨S, i * 4, none⟩), .agg #[.bool true, .slice la x.lo.length lc, .slice sa x.st.length sc, .slice ka kn kc], .agg #[.bool p.1.r, .slice p.1.lo.a p.1.lo.n p.1.lo.c, .slice p.1.st.a p.1.st.n p.1.st.c, .slice p.1.lk.a p.1.lk.n p.1.lk.c], undef, undef, undef, undef, undef, undef, undef, undef, undef, undef, undef, undef, undef, undef, undef, undef, undef, undef, undef, undef, undef, undef, undef, undef, undef, undef, undef, undef, undef, undef, undef, undef, undef, undef, undef, undef, undef, undef, undef, undef, undef, undef, undef, undef, undef, undef, undef, undef, undef, undef, undef, undef, undef], defers := [] }) (fun p w' => Copied W1 w' ⟨true, ⟨la, x.lo.length, lc⟩, ⟨sa, x.st.length, sc⟩, ⟨ka, kn, kc⟩⟩ p.1 x.lo x.st ∧ (W1.heap.size ≤ p.2.1 ∧ W1.heap.size ≤ p.2.2.1 ∧ W1.heap.size ≤ p.2.2.2) ∧ w'.heap[p.2.1]? = some (.cells #[.int .i64 0, .int .i64 0] 26 (0, 0)) ∧ w'.heap[p.2.2.1]? = some (.cells #[.bool false, .slice none 0 0, .slice none 0 0] 166 (0, 0)) ∧ w'.heap[p.2.2.2]? = some (.cells #[.bool false, .slice none 0 0, .slice none 0 0, .slice none 0 0] 58 (0, 0)) ∧ Fr no W1 w') ?_ (fun CONT => ?_)
    · rintro ⟨⟨sr', ⟨la', ln', lc'⟩, ⟨sa', sn', sc'⟩, ⟨ka', kn', kc'⟩⟩, b1, b2, b3⟩ w2 ⟨cp, ⟨l1, l2, l3⟩, e1, e2, e3, g2⟩
      simp only at cp l1 l2 l3 e1 e2 e3 ⊢
      obtain rfl : sr' = true := cp.r
      have hlk := cp.lk
      simp only [Sv.mk.injEq] at hlk
      obtain ⟨k1, k2, k3⟩ := hlk
      have k1' := k1.symm
      have k2' := k2.symm
      have k3' := k3.symm
      subst k1' k2' k3'
      clear k1 k2 k3
      obtain rfl : ln' = x.lo.length := by obtain ⟨_, _, e⟩ := cp.lo.form; simp only [Value.slice.injEq] at e; exact e.2.1
      obtain rfl : sn' = x.st.length := by obtain ⟨_, _, e⟩ := cp.st.form; simp only [Value.slice.injEq] at e; exact e.2.1
      obtain ⟨w3, r3, h3, F3⟩ := store_mid w2 b1 0 26 26 #[.int .i64 0, .int .i64 0] #[.int .i64 ins.1, .int .i64 ins.2] e1 (Nat.le_refl 2) (by kernel_rfl) (by kernel_rfl)
      have cp3 := cp.kept1 e1 (by decide) l1 F3
      have n12 := ne_tag e1 e2 (by decide)
      have n13 := ne_tag e1 e3 (by decide)
      have n23 := ne_tag e2 e3 (by decide)
      have e2' := F3.heap e2 (fun e => n12 e.symm)
      have e3' := F3.heap e3 (fun e => n13 e.symm)
      have h3' : w3.heap[b1]? = some (.cells #[.int .i64 ins.1, .int .i64 ins.2] 26 (0, 0)) := h3
      refine late_all [26] (by kernel_rfl) (by simp) (fun jj hjj => ?_)
      obtain rfl := one_of hjj
      refine late_skip rfl rfl (ev_store 26 7 26 (.pointer (some ⟨b1, 0, none⟩)) (.agg #[.int .i64 ins.1, .int .i64 ins.2]) w3 rfl (by kernel_rfl) (by kernel_rfl) r3) ?_
      refine ⟨fun _ => cp3.fr, ?_⟩
      obtain ⟨w4, r4, h4', F4⟩ := store_mid w3 b2 0 166 166 #[.bool false, .slice none 0 0, .slice none 0 0] #[.bool r.nv, .slice ta r.tk.length tc, .slice pa r.pt.length pc] e2' (Nat.le_refl 3) (by kernel_rfl) (by kernel_rfl)
      have cp4 := cp3.kept1 e2' (by decide) l2 F4
      have h3'' := F4.heap h3' n12
      have e3'' := F4.heap e3' (fun e => n23 e.symm)
      have h4'' : w4.heap[b2]? = some (.cells #[.bool r.nv, .slice ta r.tk.length tc, .slice pa r.pt.length pc] 166 (0, 0)) := h4'
      refine late_all [27] (by kernel_rfl) (by simp) (fun jj hjj => ?_)
      obtain rfl := one_of hjj
      refine late_skip rfl rfl (ev_store 166 8 33 (.pointer (some ⟨b2, 0, none⟩)) (.agg #[.bool r.nv, .slice ta r.tk.length tc, .slice pa r.pt.length pc]) w4 rfl (by kernel_rfl) (by kernel_rfl) r4) ?_
      refine ⟨fun _ => cp4.fr, ?_⟩
      obtain ⟨w5, r5, h5', F5⟩ := store_mid w4 b3 0 58 58 #[.bool false, .slice none 0 0, .slice none 0 0, .slice none 0 0] #[.bool true, .slice la' x.lo.length lc', .slice sa' x.st.length sc', .slice ka kn kc] e3'' (Nat.le_refl 4) (by kernel_rfl) (by kernel_rfl)
      have cp5 := cp4.kept1 e3'' (by decide) l3 F5
      have E1 := F5.heap h3'' n13
      have E2 := F5.heap h4'' n23
      have E3 : w5.heap[b3]? = some (.cells #[.bool true, .slice la' x.lo.length lc', .slice sa' x.st.length sc', .slice ka kn kc] 58 (0, 0)) := h5'
      refine late_all [28] (by kernel_rfl) (by simp) (fun jj hjj => ?_)
      obtain rfl := one_of hjj
      refine late_skip rfl rfl (ev_store 58 9 41 (.pointer (some ⟨b3, 0, none⟩)) (.agg #[.bool true, .slice la' x.lo.length lc', .slice sa' x.st.length sc', .slice ka kn kc]) w5 rfl (by kernel_rfl) (by kernel_rfl) r5) ?_
      refine ⟨(fun h => Bool.noConfusion (show true = false from h)), ?_⟩
      refine late_done (by kernel_rfl) ?_
      have HB : Hid (w5.heap[b1]? = some (.cells #[.int .i64 ins.1, .int .i64 ins.2] 26 (0, 0)) ∧ w5.heap[b2]? = some (.cells #[.bool r.nv, .slice ta r.tk.length tc, .slice pa r.pt.length pc] 166 (0, 0)) ∧ w5.heap[b3]? = some (.cells #[.bool true, .slice la' x.lo.length lc', .slice sa' x.st.length sc', .slice ka kn kc] 58 (0, 0)) ∧ Copied W1 w5 ⟨true, ⟨la, x.lo.length, lc⟩, ⟨sa, x.st.length, sc⟩, ⟨ka, kn, kc⟩⟩ ⟨true, ⟨la', x.lo.length, lc'⟩, ⟨sa', x.st.length, sc'⟩, ⟨ka, kn, kc⟩⟩ x.lo x.st ∧ (W1.heap.size ≤ b1 ∧ W1.heap.size ≤ b2 ∧ W1.heap.size ≤ b3)) := ⟨E1, E2, E3, cp5, l1, l2, l3⟩
      clear cp cp3 cp4 cp5 e1 e2 e3 e2' e3' h3 h3' h3'' h4' h4'' e3'' h5' F3 F4 F5 r3 r4 r5 n12 n13 n23 E1 E2 E3 g2 HL HCP HIX HS0
      rename_i ha _ _
      refine ha _ _ ?_
      refine wp_eq (a' := { tmps := #[.pointer (some ⟨f, 0, none⟩), .int .i64 (i : Int), undef, undef, .pointer (some ⟨w.heap.size, 0, none⟩), .int .i64 0, .int .i64 0, .pointer (some ⟨b1, 0, none⟩), .pointer (some ⟨b2, 0, none⟩), .pointer (some ⟨b3, 0, none⟩), undef, undef, .pointer (some ⟨f, 0, none⟩), .int .i64 (i : Int), .int .i64 0, .int .i64 0, .bool false, undef, undef, .pointer (some ⟨f, 0, none⟩), .pointer (some ⟨f, 0, none⟩), .pointer (some ⟨f, 1, none⟩), .pointer (some ⟨f, 7, none⟩), .slice (some ⟨cb, co, none⟩) n cc, .int .i64 (i : Int), .pointer (some ⟨cb, co + i * 2, none⟩), .agg #[.int .i64 ins.1, .int .i64 ins.2], .pointer (some ⟨f, 0, none⟩), .pointer (some ⟨f, 0, none⟩), .pointer (some ⟨f, 10, none⟩), .slice (some ⟨R, 0, none⟩) n n, .int .i64 (i : Int), .pointer (some ⟨R, i * 3, none⟩), .agg #[.bool r.nv, .slice ta r.tk.length tc, .slice pa r.pt.length pc], .pointer (some ⟨f, 0, none⟩), .pointer (some ⟨f, 0, none⟩), .pointer (some ⟨f, 11, none⟩), .slice (some ⟨S, 0, none⟩) n n, .int .i64 (i : Int), .pointer (some ⟨S, i * 4, none⟩), .agg #[.bool true, .slice la x.lo.length lc, .slice sa x.st.length sc, .slice ka kn kc], .agg #[.bool true, .slice la' x.lo.length lc', .slice sa' x.st.length sc', .slice ka kn kc], undef, undef, undef, undef, undef, undef, undef, undef, undef, undef, undef, undef, undef, undef, undef, undef, undef, undef, undef, undef, undef, undef, undef, undef, undef, undef, undef, undef, undef, undef, undef, undef, undef, undef, undef, undef, undef, undef, undef, undef, undef, undef, undef, undef, undef, undef, undef, undef, undef, undef, undef, undef, undef], defers := [] }) (by kernel_rfl) ?_
      clear ha
      obtain ⟨i0, i1⟩ := bx2 HB.out.1
      obtain ⟨u0, u1, u2⟩ := bx3 HB.out.2.1
      obtain ⟨y0, y1, y2, y3⟩ := box4 HB.out.2.2.1
      have hle : ¬ x.st.length < r.tk.length := HLE.out
      obtain ⟨lf, hlf⟩ : ∃ lf : Nat, x.st.length = lf + r.tk.length := ⟨x.st.length - r.tk.length, by omega⟩
      have hsub : (x.st.length : Int) - (r.tk.length : Int) = (lf : Int) := by omega
      have hlf0 : (0 : Int) ≤ (lf : Int) := by omega
      have hlf1 : (lf : Int) ≤ (x.st.length : Int) := by omega
      have HLF : Hid (x.st.length = lf + r.tk.length) := hlf
      have hcap : (lf : Int) ≤ (sc' : Int) := by
        obtain ⟨_, _, e, hq, _⟩ := HB.out.2.2.2.1.st.sl okTy
        simp only [Value.slice.injEq] at e
        obtain ⟨-, -, rfl⟩ := e
        omega
      clear hlf hle
      by_cases h4n : ins.1 = 4
      · obtain ⟨ha1, ha2⟩ := h4 h4n
        obtain ⟨m, hm⟩ : ∃ m : Nat, ins.2 = (m : Int) := ⟨ins.2.toNat, by omega⟩
        obtain ⟨t, ht⟩ : ∃ t, x.lo[m]? = some t := ⟨_, List.getElem?_eq_getElem (by omega)⟩
        obtain ⟨lb, lo', lcap, e, q0, q1⟩ := ty_at (HB.out.2.2.2.1.lo.sl okTy) ht
        simp only [Value.slice.injEq] at e
        obtain ⟨rfl, -, rfl⟩ := e
        have hmi : (m : Int) < (x.lo.length : Int) := by omega
        have hgt : x.lo.getD ins.2.toNat top = t := by rw [hm, Int.toNat_natCast, List.getD_eq_getElem?_getD, ht]; rfl
        have GA : Fr no w5 (w5.alloc (.cells #[.int .i64 t.k, .string t.c] 55)) := (Fr.refl no w5).alloc _ _
        have HOW : Hid (OwnG elTy (w5.alloc (.cells #[.int .i64 t.k, .string t.c] 55)) (.slice sa' lf sc') (x.st.take lf)) := (HB.out.2.2.2.1.st.take okTy lf (by have := HLF.out; omega)).keep GA
        have HSR : Hid (Src Tryz.prog elTy.n elTy.t (.slice (some ⟨w5.heap.size, 0, none⟩) 1 1) ([t] : List Ty).length (cg elTy [t]) (w5.alloc (.cells #[.int .i64 t.k, .string t.c] 55))) := srcG_one okTy w5 t
        have H5 : Hid ((w5.alloc (.cells #[.int .i64 t.k, .string t.c] 55)).heap[b3]? = some (.cells #[.bool true, .slice (some ⟨lb, lo', none⟩) x.lo.length lc', .slice sa' x.st.length sc', .slice ka kn kc] 58 (0, 0)) ∧ (w5.alloc (.cells #[.int .i64 t.k, .string t.c] 55)).heap[w.heap.size]? = some (.cells #[.bool false, .slice none 0 0, .slice none 0 0, .slice none 0 0] 58 (0, 0)) ∧ OwnG elTy (w5.alloc (.cells #[.int .i64 t.k, .string t.c] 55)) (.slice (some ⟨lb, lo', none⟩) x.lo.length lc') x.lo ∧ (∀ k, (Value.slice (some ⟨lb, lo', none⟩) x.lo.length lc').ownBlock = some k → (Value.slice sa' x.st.length sc').ownBlock ≠ some k) ∧ (∀ k, (Value.slice sa' x.st.length sc').ownBlock = some k → W1.heap.size ≤ k) ∧ Fr no W1 (w5.alloc (.cells #[.int .i64 t.k, .string t.c] 55))) :=
          ⟨GA.heap HB.out.2.2.1 (fun f => f), GA.heap (HB.out.2.2.2.1.fr.heap HE1.out.1 (fun f => f)) (fun f => f), HB.out.2.2.2.1.lo.keep GA, HB.out.2.2.2.1.ne, HB.out.2.2.2.1.nst, HB.out.2.2.2.1.fr.new GA (fun _ _ f => f)⟩
        have hlt4 : (ins.1 == 4) = true := by simpa using h4n
        have h54 : ¬ ins.1 = 5 := by omega
        rw [hm] at i1
        have y2a := (box4 (GA.heap HB.out.2.2.1 (fun f => f))).2.2.1
        clear GA
        have STEP : Hid (∀ v' w6, OwnG elTy w6 v' (x.st.take lf ++ [t]) → Sp no (.slice sa' lf sc') (w5.alloc (.cells #[.int .i64 t.k, .string t.c] 55)) v' w6 → w6.heap[b3]? = some (.cells #[.bool true, .slice (some ⟨lb, lo', none⟩) x.lo.length lc', .slice sa' x.st.length sc', .slice ka kn kc] 58 (0, 0)) ∧ w6.heap[w.heap.size]? = some (.cells #[.bool false, .slice none 0 0, .slice none 0 0, .slice none 0 0] 58 (0, 0)) ∧ OwnG elTy w6 (.slice (some ⟨lb, lo', none⟩) x.lo.length lc') x.lo ∧ Fr no W1 w6 ∧ w.heap.size < W1.heap.size ∧ ∀ k, v'.ownBlock = some k → W1.heap.size ≤ k) := fun v' w6 o6 s6 => by
          obtain ⟨EB, EZ, OL, NE, NS, FF⟩ := H5.out
          have hlz : w.heap.size < W1.heap.size := lt_of_heap HE1.out.1
          have nt : ∀ {b : Nat} {cur : Array Value} {ty : TypeId}, (w5.alloc (.cells #[.int .i64 t.k, .string t.c] 55)).heap[b]? = some (.cells cur ty (0, 0)) → ty ≠ 55 → ¬ (no b ∨ (Value.slice sa' lf sc').ownBlock = some b) := fun {b cur ty} hb hty e => by
            rcases e with e | e
            · exact e
            · obtain ⟨cu, hc⟩ := HOW.out.tag e
              rw [hb] at hc
              simp only [Option.some.injEq, Obj.cells.injEq] at hc
              exact hty hc.2.1
          refine ⟨s6.1.heap EB (nt EB (by decide)), s6.1.heap EZ (nt EZ (by decide)), OL.kept s6.1 (fun k hk e => ?_), FF.new s6.1 (fun k hk e => ?_), hlz, fun k hk => ?_⟩
          · rcases e with e | e
            · exact e
            · exact NE k hk (by cases sa' with | none => exact e | some a => exact e)
          · rcases e with e | e
            · exact e
            · have := NS k (by cases sa' with | none => exact e | some a => exact e)
              omega
          · by_cases hl : k < (w5.alloc (.cells #[.int .i64 t.k, .string t.c] 55)).heap.size
            · have e := s6.2 k hl hk
              exact NS k (by cases sa' with | none => exact e | some a => exact e)
            · have := FF.size
              omega
        go_wp2_with (first | (at_builtin; refine wpList_apd0 okTy _ rfl rfl _ _ rfl (.slice sa' lf sc') (x.st.take lf) rfl HOW.out _ rfl [t] HSR.out (by simp only [List.length_take, List.length_singleton]; omega) ?_; intro v' w6 o6 s6; obtain ⟨E6, Z6, OL6, F6, hlz, NV6⟩ := STEP.out v' w6 o6 s6; obtain ⟨oo6, cc6, rfl⟩ := o6.form; generalize hnl : (x.st.take lf ++ [t]).length = nl at *; have z2 := (box4 E6).2.2.1; have fz2 := frozen_at (o := 2) E6; have A6 : (w6.setCell ⟨b3, 2, none⟩ (.slice oo6 nl cc6)).heap[b3]? = some (.cells #[.bool true, .slice (some ⟨lb, lo', none⟩) x.lo.length lc', .slice oo6 nl cc6, .slice ka kn kc] 58 (0, 0)) := set_at E6; have F7 : Fr (fun k => k = b3) w6 (w6.setCell ⟨b3, 2, none⟩ (.slice oo6 nl cc6)) := (Fr.refl (fun k => k = b3) w6).setCell (p := ⟨b3, 2, none⟩) (fun _ => rfl) _; have hb3 := HB.out.2.2.2.2.2.2; have Z7 := F7.heap Z6 (by omega); have nt3 := fun k (hk : (Value.slice oo6 nl cc6).ownBlock = some k) (e : k = b3) => (by obtain ⟨cu, hc⟩ := o6.tag hk; rw [e, E6] at hc; simp only [Option.some.injEq, Obj.cells.injEq] at hc; exact absurd hc.2.1 (by decide) : False); have nt4 := fun k (hk : (Value.slice (some ⟨lb, lo', none⟩) x.lo.length lc').ownBlock = some k) (e : k = b3) => (by obtain ⟨cu, hc⟩ := OL6.tag hk; rw [e, E6] at hc; simp only [Option.some.injEq, Obj.cells.injEq] at hc; exact absurd hc.2.1 (by decide) : False); have HO6 : Hid (OwnG elTy (w6.setCell ⟨b3, 2, none⟩ (.slice oo6 nl cc6)) (.slice oo6 nl cc6) (x.st.take lf ++ [t]) ∧ OwnG elTy (w6.setCell ⟨b3, 2, none⟩ (.slice oo6 nl cc6)) (.slice (some ⟨lb, lo', none⟩) x.lo.length lc') x.lo ∧ Fr no W1 (w6.setCell ⟨b3, 2, none⟩ (.slice oo6 nl cc6)) ∧ ∀ k, (Value.slice oo6 nl cc6).ownBlock = some k → W1.heap.size ≤ k) := ⟨o6.kept F7 nt3, OL6.kept F7 nt4, F6.new F7 (fun k hk e => by omega), NV6⟩; generalize hW7 : w6.setCell ⟨b3, 2, none⟩ (.slice oo6 nl cc6) = W7 at *; obtain ⟨t0, t1, t2, t3⟩ := box4 A6; obtain ⟨v0, v1, v2, v3⟩ := box4 Z7; have fzz := fun o => frozen_at (o := o) Z7; have HC : Hid _ := And.intro (chain4 Z7 (.bool true) (.slice (some ⟨lb, lo', none⟩) x.lo.length lc') (.slice oo6 nl cc6) (.slice ka kn kc)) (And.intro (frc4 W7 w.heap.size (.bool true) (.slice (some ⟨lb, lo', none⟩) x.lo.length lc') (.slice oo6 nl cc6) (.slice ka kn kc)) Z7); clear o6 s6 E6 Z6 OL6 F6 A6 F7 Z7 nt3 nt4 hb3 hlz NV6) | go_in)
        refine bodyPost_ret (results_109 _ w.heap.size _ _ _ _ _ HC.out.1 _ rfl rfl) rfl ?_
        obtain ⟨ost, olo, ff, nv⟩ := HO6.out
        have nt8 : ∀ {v : Value} {l : List Ty}, OwnG elTy W7 v l → ∀ k, v.ownBlock = some k → ¬ k = w.heap.size := fun o k hk e => by
          obtain ⟨cu, hc⟩ := o.tag hk
          rw [e, HC.out.2.2] at hc
          simp only [Option.some.injEq, Obj.cells.injEq] at hc
          exact absurd hc.2.1 (by decide)
        have elo : (runS r ins x).lo = x.lo := by unfold runS; simp only; rw [if_neg h54]
        have est : (runS r ins x).st = x.st.take lf ++ [t] := by unfold runS; simp only; rw [if_pos h4n, hgt, show x.st.length - r.tk.length = lf by have := HLF.out; omega]
        refine ⟨⟨true, ⟨some ⟨lb, lo', none⟩, x.lo.length, lc'⟩, ⟨oo6, nl, cc6⟩, ⟨ka, kn, kc⟩⟩, rfl, fun _ => ⟨rfl, ?_, ?_, fun k hk => Nat.le_trans HE1.out.2.size (HB.out.2.2.2.1.nlo k hk), fun k hk => Nat.le_trans HE1.out.2.size (nv k hk)⟩, (HE1.out.2.new ff (fun _ _ f => f)).new HC.out.2.1 (fun k hk e => by omega)⟩
        · rw [elo]
          exact olo.kept HC.out.2.1 (nt8 olo)
        · rw [est]
          exact ost.kept HC.out.2.1 (nt8 ost)
      by_cases h5n : ins.1 = 5
      · obtain ⟨ha1, ha2, ha3⟩ := h5 h5n
        obtain ⟨m, hm⟩ : ∃ m : Nat, ins.2 = (m : Int) := ⟨ins.2.toNat, by omega⟩
        obtain ⟨y, hy⟩ : ∃ y, x.lo[m]? = some y := ⟨_, List.getElem?_eq_getElem (by omega)⟩
        obtain ⟨t, ht⟩ : ∃ t, x.st[lf]? = some t := ⟨_, List.getElem?_eq_getElem (by have := HLF.out; omega)⟩
        have hlo0 : ∃ lb, la' = some ⟨lb, 0, none⟩ := by
          rcases HB.out.2.2.2.1.lo.1.2 with ⟨e, h0⟩ | ⟨g, cap', cur, e, _⟩
          · simp only [Value.slice.injEq] at e
            omega
          · simp only [Value.slice.injEq] at e
            exact ⟨g, e.1⟩
        obtain ⟨lb, rfl⟩ := hlo0
        obtain ⟨lb', lo2, lcap, e, q0, q1⟩ := ty_at (HB.out.2.2.2.1.lo.sl okTy) hy
        simp only [Value.slice.injEq, Option.some.injEq, Addr.mk.injEq, and_true] at e
        obtain ⟨⟨rfl, rfl⟩, -, rfl⟩ := e
        obtain ⟨sb, so, scap, e, p0, p1⟩ := ty_at (HB.out.2.2.2.1.st.sl okTy) ht
        simp only [Value.slice.injEq] at e
        obtain ⟨rfl, -, rfl⟩ := e
        simp only [Nat.zero_add] at q0 q1
        have hmi : (m : Int) < (x.lo.length : Int) := by omega
        have hli : (lf : Int) < (x.st.length : Int) := by have := HLF.out; omega
        have hgt : x.st.getD (x.st.length - r.tk.length) top = t := by rw [show x.st.length - r.tk.length = lf by have := HLF.out; omega, List.getD_eq_getElem?_getD, ht]; rfl
        have o1 := HB.out.2.2.2.1.lo.cell1 okTy (k := m) (j := 0) hy ⟨t.k, y.c⟩ (.int .i64 t.k) (by decide) rfl
        have hsl : m < x.lo.length := by omega
        have o2 := o1.cell1 okTy (k := m) (j := 1) (y := ⟨t.k, y.c⟩) (by rw [List.getElem?_set_self hsl]) t (.string t.c) (by decide) rfl
        rw [List.set_set] at o2
        have e2n : elTy.n = 2 := rfl
        rw [e2n, Nat.add_zero] at o2
        have FA : Fr (fun k => k = lb) w5 ((w5.setCell ⟨lb, m * 2, none⟩ (.int .i64 t.k)).setCell ⟨lb, m * 2 + 1, none⟩ (.string t.c)).drew := (((Fr.refl (fun k => k = lb) w5).setCell (p := ⟨lb, m * 2, none⟩) (fun _ => rfl) _).setCell (p := ⟨lb, m * 2 + 1, none⟩) (fun _ => rfl) _).drew
        obtain ⟨lcur, hlcur⟩ := HB.out.2.2.2.1.lo.tag (k := lb) rfl
        have ntb := ne_tag HB.out.2.2.1 hlcur (by decide)
        have EZ0 := HB.out.2.2.2.1.fr.heap HE1.out.1 (fun f => f)
        have ntz := ne_tag EZ0 hlcur (by decide)
        have nlo := HB.out.2.2.2.1.nlo lb rfl
        have HOW : Hid (OwnG elTy ((w5.setCell ⟨lb, m * 2, none⟩ (.int .i64 t.k)).setCell ⟨lb, m * 2 + 1, none⟩ (.string t.c)).drew (.slice (some ⟨sb, so, none⟩) lf sc') (x.st.take lf)) := (HB.out.2.2.2.1.st.take okTy lf (by have := HLF.out; omega)).kept FA (fun k hk e => HB.out.2.2.2.1.ne lb rfl (by rw [← e]; exact hk))
        have HSR : Hid (Src Tryz.prog elTy.n elTy.t (.slice pa r.pt.length pc) r.pt.length (cg elTy r.pt) ((w5.setCell ⟨lb, m * 2, none⟩ (.int .i64 t.k)).setCell ⟨lb, m * 2 + 1, none⟩ (.string t.c)).drew) := (HK.out ((w5.setCell ⟨lb, m * 2, none⟩ (.int .i64 t.k)).setCell ⟨lb, m * 2 + 1, none⟩ (.string t.c)).drew (HE1.out.2.new (HB.out.2.2.2.1.fr.new FA (fun k hk e => by omega)) (fun _ _ f => f))).1
        have H5 : Hid (((w5.setCell ⟨lb, m * 2, none⟩ (.int .i64 t.k)).setCell ⟨lb, m * 2 + 1, none⟩ (.string t.c)).drew.heap[b3]? = some (.cells #[.bool true, .slice (some ⟨lb, 0, none⟩) x.lo.length lc', .slice (some ⟨sb, so, none⟩) x.st.length sc', .slice ka kn kc] 58 (0, 0)) ∧ ((w5.setCell ⟨lb, m * 2, none⟩ (.int .i64 t.k)).setCell ⟨lb, m * 2 + 1, none⟩ (.string t.c)).drew.heap[w.heap.size]? = some (.cells #[.bool false, .slice none 0 0, .slice none 0 0, .slice none 0 0] 58 (0, 0)) ∧ OwnG elTy ((w5.setCell ⟨lb, m * 2, none⟩ (.int .i64 t.k)).setCell ⟨lb, m * 2 + 1, none⟩ (.string t.c)).drew (.slice (some ⟨lb, 0, none⟩) x.lo.length lc') (x.lo.set m t) ∧ (∀ k, (Value.slice (some ⟨lb, 0, none⟩) x.lo.length lc').ownBlock = some k → (Value.slice (some ⟨sb, so, none⟩) x.st.length sc').ownBlock ≠ some k) ∧ (∀ k, (Value.slice (some ⟨sb, so, none⟩) x.st.length sc').ownBlock = some k → W1.heap.size ≤ k) ∧ Fr no W1 ((w5.setCell ⟨lb, m * 2, none⟩ (.int .i64 t.k)).setCell ⟨lb, m * 2 + 1, none⟩ (.string t.c)).drew) :=
          ⟨FA.heap HB.out.2.2.1 ntb, FA.heap EZ0 ntz, o2.keep ((Fr.refl no _).drew), HB.out.2.2.2.1.ne, HB.out.2.2.2.1.nst, HB.out.2.2.2.1.fr.new FA (fun k hk e => by omega)⟩
        have hlt5 : (ins.1 == 5) = true := by simpa using h5n
        have h54 : ¬ ins.1 = 4 := by omega
        rw [hm] at i1
        have y2a := (box4 (FA.heap HB.out.2.2.1 ntb)).2.2.1
        have fq0 := frozen_at (o := m * 2) hlcur
        have fq1 := frozen_at (o := m * 2 + 1) hlcur
        have u1a := (bx3 (FA.heap HB.out.2.1 (ne_tag HB.out.2.1 hlcur (by decide)))).2.2
        clear FA ntb ntz EZ0 nlo o1 o2 hlcur e2n hsl ha3 h5 h4
        go_wp2_with fail
        go_region
        generalize ((w5.setCell ⟨lb, m * 2, none⟩ (.int .i64 t.k)).setCell ⟨lb, m * 2 + 1, none⟩ (.string t.c)).drew = W5 at *
        have STEP : Hid (∀ v' w6, OwnG elTy w6 v' (x.st.take lf ++ r.pt) → Sp no (.slice (some ⟨sb, so, none⟩) lf sc') W5 v' w6 → w6.heap[b3]? = some (.cells #[.bool true, .slice (some ⟨lb, 0, none⟩) x.lo.length lc', .slice (some ⟨sb, so, none⟩) x.st.length sc', .slice ka kn kc] 58 (0, 0)) ∧ w6.heap[w.heap.size]? = some (.cells #[.bool false, .slice none 0 0, .slice none 0 0, .slice none 0 0] 58 (0, 0)) ∧ OwnG elTy w6 (.slice (some ⟨lb, 0, none⟩) x.lo.length lc') (x.lo.set m t) ∧ Fr no W1 w6 ∧ w.heap.size < W1.heap.size ∧ ∀ k, v'.ownBlock = some k → W1.heap.size ≤ k) := fun v' w6 o6 s6 => by
          obtain ⟨EB, EZ, OL, NE, NS, FF⟩ := H5.out
          have hlz : w.heap.size < W1.heap.size := lt_of_heap HE1.out.1
          have nt : ∀ {b : Nat} {cur : Array Value} {ty : TypeId}, W5.heap[b]? = some (.cells cur ty (0, 0)) → ty ≠ 55 → ¬ (no b ∨ (Value.slice (some ⟨sb, so, none⟩) lf sc').ownBlock = some b) := fun {b cur ty} hb hty e => by
            rcases e with e | e
            · exact e
            · obtain ⟨cu, hc⟩ := HOW.out.tag e
              rw [hb] at hc
              simp only [Option.some.injEq, Obj.cells.injEq] at hc
              exact hty hc.2.1
          refine ⟨s6.1.heap EB (nt EB (by decide)), s6.1.heap EZ (nt EZ (by decide)), OL.kept s6.1 (fun k hk e => ?_), FF.new s6.1 (fun k hk e => ?_), hlz, fun k hk => ?_⟩
          · rcases e with e | e
            · exact e
            · exact NE k hk (e)
          · rcases e with e | e
            · exact e
            · have := NS k (e)
              omega
          · by_cases hl : k < W5.heap.size
            · have e := s6.2 k hl hk
              exact NS k (e)
            · have := FF.size
              omega
        go_wp2_with (first | (at_builtin; refine wpList_apd0 okTy _ rfl rfl _ _ rfl (.slice (some ⟨sb, so, none⟩) lf sc') (x.st.take lf) rfl HOW.out _ rfl r.pt HSR.out (by simp only [List.length_take]; omega) ?_; intro v' w6 o6 s6; obtain ⟨E6, Z6, OL6, F6, hlz, NV6⟩ := STEP.out v' w6 o6 s6; obtain ⟨oo6, cc6, rfl⟩ := o6.form; generalize hnl : (x.st.take lf ++ r.pt).length = nl at *; have z2 := (box4 E6).2.2.1; have fz2 := frozen_at (o := 2) E6; have A6 : (w6.setCell ⟨b3, 2, none⟩ (.slice oo6 nl cc6)).heap[b3]? = some (.cells #[.bool true, .slice (some ⟨lb, 0, none⟩) x.lo.length lc', .slice oo6 nl cc6, .slice ka kn kc] 58 (0, 0)) := set_at E6; have F7 : Fr (fun k => k = b3) w6 (w6.setCell ⟨b3, 2, none⟩ (.slice oo6 nl cc6)) := (Fr.refl (fun k => k = b3) w6).setCell (p := ⟨b3, 2, none⟩) (fun _ => rfl) _; have hb3 := HB.out.2.2.2.2.2.2; have Z7 := F7.heap Z6 (by omega); have nt3 := fun k (hk : (Value.slice oo6 nl cc6).ownBlock = some k) (e : k = b3) => (by obtain ⟨cu, hc⟩ := o6.tag hk; rw [e, E6] at hc; simp only [Option.some.injEq, Obj.cells.injEq] at hc; exact absurd hc.2.1 (by decide) : False); have nt4 := fun k (hk : (Value.slice (some ⟨lb, 0, none⟩) x.lo.length lc').ownBlock = some k) (e : k = b3) => (by obtain ⟨cu, hc⟩ := OL6.tag hk; rw [e, E6] at hc; simp only [Option.some.injEq, Obj.cells.injEq] at hc; exact absurd hc.2.1 (by decide) : False); have HO6 : Hid (OwnG elTy (w6.setCell ⟨b3, 2, none⟩ (.slice oo6 nl cc6)) (.slice oo6 nl cc6) (x.st.take lf ++ r.pt) ∧ OwnG elTy (w6.setCell ⟨b3, 2, none⟩ (.slice oo6 nl cc6)) (.slice (some ⟨lb, 0, none⟩) x.lo.length lc') (x.lo.set m t) ∧ Fr no W1 (w6.setCell ⟨b3, 2, none⟩ (.slice oo6 nl cc6)) ∧ ∀ k, (Value.slice oo6 nl cc6).ownBlock = some k → W1.heap.size ≤ k) := ⟨o6.kept F7 nt3, OL6.kept F7 nt4, F6.new F7 (fun k hk e => by omega), NV6⟩; generalize hW7 : w6.setCell ⟨b3, 2, none⟩ (.slice oo6 nl cc6) = W7 at *; obtain ⟨t0, t1, t2, t3⟩ := box4 A6; obtain ⟨v0, v1, v2, v3⟩ := box4 Z7; have fzz := fun o => frozen_at (o := o) Z7; have HC : Hid _ := And.intro (chain4 Z7 (.bool true) (.slice (some ⟨lb, 0, none⟩) x.lo.length lc') (.slice oo6 nl cc6) (.slice ka kn kc)) (And.intro (frc4 W7 w.heap.size (.bool true) (.slice (some ⟨lb, 0, none⟩) x.lo.length lc') (.slice oo6 nl cc6) (.slice ka kn kc)) Z7); clear o6 s6 E6 Z6 OL6 F6 A6 F7 Z7 nt3 nt4 hb3 hlz NV6) | go_in)
        refine bodyPost_ret (results_109 _ w.heap.size _ _ _ _ _ HC.out.1 _ rfl rfl) rfl ?_
        obtain ⟨ost, olo, ff, nv⟩ := HO6.out
        have nt8 : ∀ {v : Value} {l : List Ty}, OwnG elTy W7 v l → ∀ k, v.ownBlock = some k → ¬ k = w.heap.size := fun o k hk e => by
          obtain ⟨cu, hc⟩ := o.tag hk
          rw [e, HC.out.2.2] at hc
          simp only [Option.some.injEq, Obj.cells.injEq] at hc
          exact absurd hc.2.1 (by decide)
        have elo : (runS r ins x).lo = (x.lo.set m t) := by unfold runS; simp only; rw [if_pos h5n, hgt, hm, Int.toNat_natCast]
        have est : (runS r ins x).st = x.st.take lf ++ r.pt := by unfold runS; simp only; rw [if_neg h54, show x.st.length - r.tk.length = lf by have := HLF.out; omega]
        refine ⟨⟨true, ⟨some ⟨lb, 0, none⟩, x.lo.length, lc'⟩, ⟨oo6, nl, cc6⟩, ⟨ka, kn, kc⟩⟩, rfl, fun _ => ⟨rfl, ?_, ?_, fun k hk => Nat.le_trans HE1.out.2.size (HB.out.2.2.2.1.nlo k hk), fun k hk => Nat.le_trans HE1.out.2.size (nv k hk)⟩, (HE1.out.2.new ff (fun _ _ f => f)).new HC.out.2.1 (fun k hk e => by omega)⟩
        · rw [elo]
          exact olo.kept HC.out.2.1 (nt8 olo)
        · rw [est]
          exact ost.kept HC.out.2.1 (nt8 ost)
      have HOW : Hid (OwnG elTy w5 (.slice sa' lf sc') (x.st.take lf)) := HB.out.2.2.2.1.st.take okTy lf (by have := HLF.out; omega)
      have HSR : Hid (Src Tryz.prog elTy.n elTy.t (.slice pa r.pt.length pc) r.pt.length (cg elTy r.pt) w5) := (HK.out w5 (HE1.out.2.new HB.out.2.2.2.1.fr (fun _ _ f => f))).1
      have H5 : Hid (w5.heap[b3]? = some (.cells #[.bool true, .slice la' x.lo.length lc', .slice sa' x.st.length sc', .slice ka kn kc] 58 (0, 0)) ∧ w5.heap[w.heap.size]? = some (.cells #[.bool false, .slice none 0 0, .slice none 0 0, .slice none 0 0] 58 (0, 0)) ∧ OwnG elTy w5 (.slice la' x.lo.length lc') x.lo ∧ (∀ k, (Value.slice la' x.lo.length lc').ownBlock = some k → (Value.slice sa' x.st.length sc').ownBlock ≠ some k) ∧ (∀ k, (Value.slice sa' x.st.length sc').ownBlock = some k → W1.heap.size ≤ k) ∧ Fr no W1 w5) :=
        ⟨HB.out.2.2.1, HB.out.2.2.2.1.fr.heap HE1.out.1 (fun f => f), HB.out.2.2.2.1.lo, HB.out.2.2.2.1.ne, HB.out.2.2.2.1.nst, HB.out.2.2.2.1.fr⟩
      have hlt4 : (ins.1 == 4) = false := by simpa using h4n
      have hlt5 : (ins.1 == 5) = false := by simpa using h5n
      have hlt7 : (ins.1 == 7) = false := by simpa using h7
      have STEP : Hid (∀ v' w6, OwnG elTy w6 v' (x.st.take lf ++ r.pt) → Sp no (.slice sa' lf sc') w5 v' w6 → w6.heap[b3]? = some (.cells #[.bool true, .slice la' x.lo.length lc', .slice sa' x.st.length sc', .slice ka kn kc] 58 (0, 0)) ∧ w6.heap[w.heap.size]? = some (.cells #[.bool false, .slice none 0 0, .slice none 0 0, .slice none 0 0] 58 (0, 0)) ∧ OwnG elTy w6 (.slice la' x.lo.length lc') x.lo ∧ Fr no W1 w6 ∧ w.heap.size < W1.heap.size ∧ ∀ k, v'.ownBlock = some k → W1.heap.size ≤ k) := fun v' w6 o6 s6 => by
        obtain ⟨EB, EZ, OL, NE, NS, FF⟩ := H5.out
        have hlz : w.heap.size < W1.heap.size := lt_of_heap HE1.out.1
        have nt : ∀ {b : Nat} {cur : Array Value} {ty : TypeId}, w5.heap[b]? = some (.cells cur ty (0, 0)) → ty ≠ 55 → ¬ (no b ∨ (Value.slice sa' lf sc').ownBlock = some b) := fun {b cur ty} hb hty e => by
          rcases e with e | e
          · exact e
          · obtain ⟨cu, hc⟩ := HOW.out.tag e
            rw [hb] at hc
            simp only [Option.some.injEq, Obj.cells.injEq] at hc
            exact hty hc.2.1
        refine ⟨s6.1.heap EB (nt EB (by decide)), s6.1.heap EZ (nt EZ (by decide)), OL.kept s6.1 (fun k hk e => ?_), FF.new s6.1 (fun k hk e => ?_), hlz, fun k hk => ?_⟩
        · rcases e with e | e
          · exact e
          · exact NE k hk (by cases sa' with | none => exact e | some a => exact e)
        · rcases e with e | e
          · exact e
          · have := NS k (by cases sa' with | none => exact e | some a => exact e)
            omega
        · by_cases hl : k < w5.heap.size
          · have e := s6.2 k hl hk
            exact NS k (by cases sa' with | none => exact e | some a => exact e)
          · have := FF.size
            omega
      go_wp2_with (first | (at_builtin; refine wpList_apd0 okTy _ rfl rfl _ _ rfl (.slice sa' lf sc') (x.st.take lf) rfl HOW.out _ rfl r.pt HSR.out (by simp only [List.length_take]; omega) ?_; intro v' w6 o6 s6; obtain ⟨E6, Z6, OL6, F6, hlz, NV6⟩ := STEP.out v' w6 o6 s6; obtain ⟨oo6, cc6, rfl⟩ := o6.form; generalize hnl : (x.st.take lf ++ r.pt).length = nl at *; have z2 := (box4 E6).2.2.1; have fz2 := frozen_at (o := 2) E6; have A6 : (w6.setCell ⟨b3, 2, none⟩ (.slice oo6 nl cc6)).heap[b3]? = some (.cells #[.bool true, .slice la' x.lo.length lc', .slice oo6 nl cc6, .slice ka kn kc] 58 (0, 0)) := set_at E6; have F7 : Fr (fun k => k = b3) w6 (w6.setCell ⟨b3, 2, none⟩ (.slice oo6 nl cc6)) := (Fr.refl (fun k => k = b3) w6).setCell (p := ⟨b3, 2, none⟩) (fun _ => rfl) _; have hb3 := HB.out.2.2.2.2.2.2; have Z7 := F7.heap Z6 (by omega); have nt3 := fun k (hk : (Value.slice oo6 nl cc6).ownBlock = some k) (e : k = b3) => (by obtain ⟨cu, hc⟩ := o6.tag hk; rw [e, E6] at hc; simp only [Option.some.injEq, Obj.cells.injEq] at hc; exact absurd hc.2.1 (by decide) : False); have nt4 := fun k (hk : (Value.slice la' x.lo.length lc').ownBlock = some k) (e : k = b3) => (by obtain ⟨cu, hc⟩ := OL6.tag hk; rw [e, E6] at hc; simp only [Option.some.injEq, Obj.cells.injEq] at hc; exact absurd hc.2.1 (by decide) : False); have HO6 : Hid (OwnG elTy (w6.setCell ⟨b3, 2, none⟩ (.slice oo6 nl cc6)) (.slice oo6 nl cc6) (x.st.take lf ++ r.pt) ∧ OwnG elTy (w6.setCell ⟨b3, 2, none⟩ (.slice oo6 nl cc6)) (.slice la' x.lo.length lc') x.lo ∧ Fr no W1 (w6.setCell ⟨b3, 2, none⟩ (.slice oo6 nl cc6)) ∧ ∀ k, (Value.slice oo6 nl cc6).ownBlock = some k → W1.heap.size ≤ k) := ⟨o6.kept F7 nt3, OL6.kept F7 nt4, F6.new F7 (fun k hk e => by omega), NV6⟩; generalize hW7 : w6.setCell ⟨b3, 2, none⟩ (.slice oo6 nl cc6) = W7 at *; obtain ⟨t0, t1, t2, t3⟩ := box4 A6; obtain ⟨v0, v1, v2, v3⟩ := box4 Z7; have fzz := fun o => frozen_at (o := o) Z7; have HC : Hid _ := And.intro (chain4 Z7 (.bool true) (.slice la' x.lo.length lc') (.slice oo6 nl cc6) (.slice ka kn kc)) (And.intro (frc4 W7 w.heap.size (.bool true) (.slice la' x.lo.length lc') (.slice oo6 nl cc6) (.slice ka kn kc)) Z7); clear o6 s6 E6 Z6 OL6 F6 A6 F7 Z7 nt3 nt4 hb3 hlz NV6) | go_in)
      refine bodyPost_ret (results_109 _ w.heap.size _ _ _ _ _ HC.out.1 _ rfl rfl) rfl ?_
      obtain ⟨ost, olo, ff, nv⟩ := HO6.out
      have nt8 : ∀ {v : Value} {l : List Ty}, OwnG elTy W7 v l → ∀ k, v.ownBlock = some k → ¬ k = w.heap.size := fun o k hk e => by
        obtain ⟨cu, hc⟩ := o.tag hk
        rw [e, HC.out.2.2] at hc
        simp only [Option.some.injEq, Obj.cells.injEq] at hc
        exact absurd hc.2.1 (by decide)
      have elo : (runS r ins x).lo = x.lo := by unfold runS; simp only; rw [if_neg h5n]
      have est : (runS r ins x).st = x.st.take lf ++ r.pt := by unfold runS; simp only; rw [if_neg h4n, show x.st.length - r.tk.length = lf by have := HLF.out; omega]
      refine ⟨⟨true, ⟨la', x.lo.length, lc'⟩, ⟨oo6, nl, cc6⟩, ⟨ka, kn, kc⟩⟩, rfl, fun _ => ⟨rfl, ?_, ?_, fun k hk => Nat.le_trans HE1.out.2.size (HB.out.2.2.2.1.nlo k hk), fun k hk => Nat.le_trans HE1.out.2.size (nv k hk)⟩, (HE1.out.2.new ff (fun _ _ f => f)).new HC.out.2.1 (fun k hk e => by omega)⟩
      · rw [elo]
        exact olo.kept HC.out.2.1 (nt8 olo)
      · rw [est]
        exact ost.kept HC.out.2.1 (nt8 ost)
    · refine late_all [22, 23, 24, 25] (by kernel_rfl) (by simp) (fun jj hjj => ?_)
      simp only [List.mem_cons, List.not_mem_nil, or_false] at hjj
      rcases hjj with rfl | rfl | rfl | rfl
      · refine late_call (f := 141) rfl rfl (by kernel_rfl) (R := fun v w' => ∃ s', v = saV s' ∧ Copied W1.drew w' ⟨true, ⟨la, x.lo.length, lc⟩, ⟨sa, x.st.length, sc⟩, ⟨ka, kn, kc⟩⟩ s' x.lo x.st) ((HCP.out W1.drew HS0.out).mono (fun e w' ⟨s', h1, h2⟩ => ⟨_, h1, s', rfl, h2⟩)) (fun v w1 hv => ?_)
        obtain ⟨s1, rfl, cp1⟩ := hv
        have g1 : Fr no W1 w1 := HS0.out.new cp1.fr (fun _ _ f => f)
        refine ⟨fun _ => g1, ?_⟩
        unfold saV
        have c1 := cp1.base HS0.out
        clear cp1
        refine late_all [23, 24, 25] (by kernel_rfl) (by simp) (fun jj hjj => ?_)
        simp only [List.mem_cons, List.not_mem_nil, or_false] at hjj
        rcases hjj with rfl | rfl | rfl
        · refine late_op rfl rfl (show _ = Result.ok (Next.value (.pointer (some ⟨w1.heap.size, 0, none⟩))) (w1.alloc (.cells #[.int .i64 0, .int .i64 0] 26)) by kernel_rfl) ?_
          have g2 : Fr no W1 (w1.alloc (.cells #[.int .i64 0, .int .i64 0] 26)) := g1.alloc _ _
          refine ⟨fun _ => g2, ?_⟩
          have e2 : (w1.alloc (.cells #[.int .i64 0, .int .i64 0] 26)).heap[w1.heap.size]? = some (.cells #[.int .i64 0, .int .i64 0] 26 (0, 0)) := heap_alloc_new w1 _
          have q2 : Fr no w1 (w1.alloc (.cells #[.int .i64 0, .int .i64 0] 26)) := (Fr.refl no w1).alloc _ _
          have l2 : W1.heap.size ≤ w1.heap.size := g1.size
          have c2 := c1.keep q2
          clear q2
          generalize w1.alloc (.cells #[.int .i64 0, .int .i64 0] 26) = w2 at *
          generalize w1.heap.size = b2 at *
          refine late_all [24, 25] (by kernel_rfl) (by simp) (fun jj hjj => ?_)
          simp only [List.mem_cons, List.not_mem_nil, or_false] at hjj
          rcases hjj with rfl | rfl
          · refine late_op rfl rfl (show _ = Result.ok (Next.value (.pointer (some ⟨w2.heap.size, 0, none⟩))) (w2.alloc (.cells #[.bool false, .slice none 0 0, .slice none 0 0] 166)) by kernel_rfl) ?_
            have g3 : Fr no W1 (w2.alloc (.cells #[.bool false, .slice none 0 0, .slice none 0 0] 166)) := g2.alloc _ _
            refine ⟨fun _ => g3, ?_⟩
            have e3 : (w2.alloc (.cells #[.bool false, .slice none 0 0, .slice none 0 0] 166)).heap[w2.heap.size]? = some (.cells #[.bool false, .slice none 0 0, .slice none 0 0] 166 (0, 0)) := heap_alloc_new w2 _
            have q3 : Fr no w2 (w2.alloc (.cells #[.bool false, .slice none 0 0, .slice none 0 0] 166)) := (Fr.refl no w2).alloc _ _
            have l3 : W1.heap.size ≤ w2.heap.size := g2.size
            have e3x23 := q3.heap e2 (fun f => f)
            have c3 := c2.keep q3
            clear q3
            generalize w2.alloc (.cells #[.bool false, .slice none 0 0, .slice none 0 0] 166) = w3 at *
            generalize w2.heap.size = b3 at *
            refine late_all [25] (by kernel_rfl) (by simp) (fun jj hjj => ?_)
            obtain rfl := one_of hjj
            refine late_op rfl rfl (show _ = Result.ok (Next.value (.pointer (some ⟨w3.heap.size, 0, none⟩))) (w3.alloc (.cells #[.bool false, .slice none 0 0, .slice none 0 0, .slice none 0 0] 58)) by kernel_rfl) ?_
            have g4 : Fr no W1 (w3.alloc (.cells #[.bool false, .slice none 0 0, .slice none 0 0, .slice none 0 0] 58)) := g3.alloc _ _
            refine ⟨fun _ => g4, ?_⟩
            have e4 : (w3.alloc (.cells #[.bool false, .slice none 0 0, .slice none 0 0, .slice none 0 0] 58)).heap[w3.heap.size]? = some (.cells #[.bool false, .slice none 0 0, .slice none 0 0, .slice none 0 0] 58 (0, 0)) := heap_alloc_new w3 _
            have q4 : Fr no w3 (w3.alloc (.cells #[.bool false, .slice none 0 0, .slice none 0 0, .slice none 0 0] 58)) := (Fr.refl no w3).alloc _ _
            have l4 : W1.heap.size ≤ w3.heap.size := g3.size
            have e4x24 := q4.heap e3 (fun f => f)
            have e4x23 := q4.heap e3x23 (fun f => f)
            have c4 := c3.keep q4
            clear q4
            generalize w3.alloc (.cells #[.bool false, .slice none 0 0, .slice none 0 0, .slice none 0 0] 58) = w4 at *
            generalize w3.heap.size = b4 at *
            exact late_at (by kernel_rfl) (by kernel_rfl) (CONT (s1, b2, b3, b4) w4 ⟨c4, ⟨l2, l3, l4⟩, e4x23, e4x24, e4, g4⟩)
          · refine late_op rfl rfl (show _ = Result.ok (Next.value (.pointer (some ⟨w2.heap.size, 0, none⟩))) (w2.alloc (.cells #[.bool false, .slice none 0 0, .slice none 0 0, .slice none 0 0] 58)) by kernel_rfl) ?_
            have g5 : Fr no W1 (w2.alloc (.cells #[.bool false, .slice none 0 0, .slice none 0 0, .slice none 0 0] 58)) := g2.alloc _ _
            refine ⟨fun _ => g5, ?_⟩
            have e5 : (w2.alloc (.cells #[.bool false, .slice none 0 0, .slice none 0 0, .slice none 0 0] 58)).heap[w2.heap.size]? = some (.cells #[.bool false, .slice none 0 0, .slice none 0 0, .slice none 0 0] 58 (0, 0)) := heap_alloc_new w2 _
            have q5 : Fr no w2 (w2.alloc (.cells #[.bool false, .slice none 0 0, .slice none 0 0, .slice none 0 0] 58)) := (Fr.refl no w2).alloc _ _
            have l5 : W1.heap.size ≤ w2.heap.size := g2.size
            have e5x23 := q5.heap e2 (fun f => f)
            have c5 := c2.keep q5
            clear q5
            generalize w2.alloc (.cells #[.bool false, .slice none 0 0, .slice none 0 0, .slice none 0 0] 58) = w5 at *
            generalize w2.heap.size = b5 at *
            refine late_all [24] (by kernel_rfl) (by simp) (fun jj hjj => ?_)
            obtain rfl := one_of hjj
            refine late_op rfl rfl (show _ = Result.ok (Next.value (.pointer (some ⟨w5.heap.size, 0, none⟩))) (w5.alloc (.cells #[.bool false, .slice none 0 0, .slice none 0 0] 166)) by kernel_rfl) ?_
            have g6 : Fr no W1 (w5.alloc (.cells #[.bool false, .slice none 0 0, .slice none 0 0] 166)) := g5.alloc _ _
            refine ⟨fun _ => g6, ?_⟩
            have e6 : (w5.alloc (.cells #[.bool false, .slice none 0 0, .slice none 0 0] 166)).heap[w5.heap.size]? = some (.cells #[.bool false, .slice none 0 0, .slice none 0 0] 166 (0, 0)) := heap_alloc_new w5 _
            have q6 : Fr no w5 (w5.alloc (.cells #[.bool false, .slice none 0 0, .slice none 0 0] 166)) := (Fr.refl no w5).alloc _ _
            have l6 : W1.heap.size ≤ w5.heap.size := g5.size
            have e6x25 := q6.heap e5 (fun f => f)
            have e6x23 := q6.heap e5x23 (fun f => f)
            have c6 := c5.keep q6
            clear q6
            generalize w5.alloc (.cells #[.bool false, .slice none 0 0, .slice none 0 0] 166) = w6 at *
            generalize w5.heap.size = b6 at *
            exact late_at (by kernel_rfl) (by kernel_rfl) (CONT (s1, b2, b6, b5) w6 ⟨c6, ⟨l2, l6, l5⟩, e6x23, e6, e6x25, g6⟩)
        · refine late_op rfl rfl (show _ = Result.ok (Next.value (.pointer (some ⟨w1.heap.size, 0, none⟩))) (w1.alloc (.cells #[.bool false, .slice none 0 0, .slice none 0 0] 166)) by kernel_rfl) ?_
          have g7 : Fr no W1 (w1.alloc (.cells #[.bool false, .slice none 0 0, .slice none 0 0] 166)) := g1.alloc _ _
          refine ⟨fun _ => g7, ?_⟩
          have e7 : (w1.alloc (.cells #[.bool false, .slice none 0 0, .slice none 0 0] 166)).heap[w1.heap.size]? = some (.cells #[.bool false, .slice none 0 0, .slice none 0 0] 166 (0, 0)) := heap_alloc_new w1 _
          have q7 : Fr no w1 (w1.alloc (.cells #[.bool false, .slice none 0 0, .slice none 0 0] 166)) := (Fr.refl no w1).alloc _ _
          have l7 : W1.heap.size ≤ w1.heap.size := g1.size
          have c7 := c1.keep q7
          clear q7
          generalize w1.alloc (.cells #[.bool false, .slice none 0 0, .slice none 0 0] 166) = w7 at *
          generalize w1.heap.size = b7 at *
          refine late_all [23, 25] (by kernel_rfl) (by simp) (fun jj hjj => ?_)
          simp only [List.mem_cons, List.not_mem_nil, or_false] at hjj
          rcases hjj with rfl | rfl
          · refine late_op rfl rfl (show _ = Result.ok (Next.value (.pointer (some ⟨w7.heap.size, 0, none⟩))) (w7.alloc (.cells #[.int .i64 0, .int .i64 0] 26)) by kernel_rfl) ?_
            have g8 : Fr no W1 (w7.alloc (.cells #[.int .i64 0, .int .i64 0] 26)) := g7.alloc _ _
            refine ⟨fun _ => g8, ?_⟩
            have e8 : (w7.alloc (.cells #[.int .i64 0, .int .i64 0] 26)).heap[w7.heap.size]? = some (.cells #[.int .i64 0, .int .i64 0] 26 (0, 0)) := heap_alloc_new w7 _
            have q8 : Fr no w7 (w7.alloc (.cells #[.int .i64 0, .int .i64 0] 26)) := (Fr.refl no w7).alloc _ _
            have l8 : W1.heap.size ≤ w7.heap.size := g7.size
            have e8x24 := q8.heap e7 (fun f => f)
            have c8 := c7.keep q8
            clear q8
            generalize w7.alloc (.cells #[.int .i64 0, .int .i64 0] 26) = w8 at *
            generalize w7.heap.size = b8 at *
            refine late_all [25] (by kernel_rfl) (by simp) (fun jj hjj => ?_)
            obtain rfl := one_of hjj
            refine late_op rfl rfl (show _ = Result.ok (Next.value (.pointer (some ⟨w8.heap.size, 0, none⟩))) (w8.alloc (.cells #[.bool false, .slice none 0 0, .slice none 0 0, .slice none 0 0] 58)) by kernel_rfl) ?_
            have g9 : Fr no W1 (w8.alloc (.cells #[.bool false, .slice none 0 0, .slice none 0 0, .slice none 0 0] 58)) := g8.alloc _ _
            refine ⟨fun _ => g9, ?_⟩
            have e9 : (w8.alloc (.cells #[.bool false, .slice none 0 0, .slice none 0 0, .slice none 0 0] 58)).heap[w8.heap.size]? = some (.cells #[.bool false, .slice none 0 0, .slice none 0 0, .slice none 0 0] 58 (0, 0)) := heap_alloc_new w8 _
            have q9 : Fr no w8 (w8.alloc (.cells #[.bool false, .slice none 0 0, .slice none 0 0, .slice none 0 0] 58)) := (Fr.refl no w8).alloc _ _
            have l9 : W1.heap.size ≤ w8.heap.size := g8.size
            have e9x23 := q9.heap e8 (fun f => f)
            have e9x24 := q9.heap e8x24 (fun f => f)
            have c9 := c8.keep q9
            clear q9
            generalize w8.alloc (.cells #[.bool false, .slice none 0 0, .slice none 0 0, .slice none 0 0] 58) = w9 at *
            generalize w8.heap.size = b9 at *
            exact late_at (by kernel_rfl) (by kernel_rfl) (CONT (s1, b8, b7, b9) w9 ⟨c9, ⟨l8, l7, l9⟩, e9x23, e9x24, e9, g9⟩)
          · refine late_op rfl rfl (show _ = Result.ok (Next.value (.pointer (some ⟨w7.heap.size, 0, none⟩))) (w7.alloc (.cells #[.bool false, .slice none 0 0, .slice none 0 0, .slice none 0 0] 58)) by kernel_rfl) ?_
            have g10 : Fr no W1 (w7.alloc (.cells #[.bool false, .slice none 0 0, .slice none 0 0, .slice none 0 0] 58)) := g7.alloc _ _
            refine ⟨fun _ => g10, ?_⟩
            have e10 : (w7.alloc (.cells #[.bool false, .slice none 0 0, .slice none 0 0, .slice none 0 0] 58)).heap[w7.heap.size]? = some (.cells #[.bool false, .slice none 0 0, .slice none 0 0, .slice none 0 0] 58 (0, 0)) := heap_alloc_new w7 _
            have q10 : Fr no w7 (w7.alloc (.cells #[.bool false, .slice none 0 0, .slice none 0 0, .slice none 0 0] 58)) := (Fr.refl no w7).alloc _ _
            have l10 : W1.heap.size ≤ w7.heap.size := g7.size
            have e10x24 := q10.heap e7 (fun f => f)
            have c10 := c7.keep q10
            clear q10
            generalize w7.alloc (.cells #[.bool false, .slice none 0 0, .slice none 0 0, .slice none 0 0] 58) = w10 at *
            generalize w7.heap.size = b10 at *
            refine late_all [23] (by kernel_rfl) (by simp) (fun jj hjj => ?_)
            obtain rfl := one_of hjj
            refine late_op rfl rfl (show _ = Result.ok (Next.value (.pointer (some ⟨w10.heap.size, 0, none⟩))) (w10.alloc (.cells #[.int .i64 0, .int .i64 0] 26)) by kernel_rfl) ?_
            have g11 : Fr no W1 (w10.alloc (.cells #[.int .i64 0, .int .i64 0] 26)) := g10.alloc _ _
            refine ⟨fun _ => g11, ?_⟩
            have e11 : (w10.alloc (.cells #[.int .i64 0, .int .i64 0] 26)).heap[w10.heap.size]? = some (.cells #[.int .i64 0, .int .i64 0] 26 (0, 0)) := heap_alloc_new w10 _
            have q11 : Fr no w10 (w10.alloc (.cells #[.int .i64 0, .int .i64 0] 26)) := (Fr.refl no w10).alloc _ _
            have l11 : W1.heap.size ≤ w10.heap.size := g10.size
            have e11x25 := q11.heap e10 (fun f => f)
            have e11x24 := q11.heap e10x24 (fun f => f)
            have c11 := c10.keep q11
            clear q11
            generalize w10.alloc (.cells #[.int .i64 0, .int .i64 0] 26) = w11 at *
            generalize w10.heap.size = b11 at *
            exact late_at (by kernel_rfl) (by kernel_rfl) (CONT (s1, b11, b7, b10) w11 ⟨c11, ⟨l11, l7, l10⟩, e11, e11x24, e11x25, g11⟩)
        · refine late_op rfl rfl (show _ = Result.ok (Next.value (.pointer (some ⟨w1.heap.size, 0, none⟩))) (w1.alloc (.cells #[.bool false, .slice none 0 0, .slice none 0 0, .slice none 0 0] 58)) by kernel_rfl) ?_
          have g12 : Fr no W1 (w1.alloc (.cells #[.bool false, .slice none 0 0, .slice none 0 0, .slice none 0 0] 58)) := g1.alloc _ _
          refine ⟨fun _ => g12, ?_⟩
          have e12 : (w1.alloc (.cells #[.bool false, .slice none 0 0, .slice none 0 0, .slice none 0 0] 58)).heap[w1.heap.size]? = some (.cells #[.bool false, .slice none 0 0, .slice none 0 0, .slice none 0 0] 58 (0, 0)) := heap_alloc_new w1 _
          have q12 : Fr no w1 (w1.alloc (.cells #[.bool false, .slice none 0 0, .slice none 0 0, .slice none 0 0] 58)) := (Fr.refl no w1).alloc _ _
          have l12 : W1.heap.size ≤ w1.heap.size := g1.size
          have c12 := c1.keep q12
          clear q12
          generalize w1.alloc (.cells #[.bool false, .slice none 0 0, .slice none 0 0, .slice none 0 0] 58) = w12 at *
          generalize w1.heap.size = b12 at *
          refine late_all [23, 24] (by kernel_rfl) (by simp) (fun jj hjj => ?_)
          simp only [List.mem_cons, List.not_mem_nil, or_false] at hjj
          rcases hjj with rfl | rfl
          · refine late_op rfl rfl (show _ = Result.ok (Next.value (.pointer (some ⟨w12.heap.size, 0, none⟩))) (w12.alloc (.cells #[.int .i64 0, .int .i64 0] 26)) by kernel_rfl) ?_
            have g13 : Fr no W1 (w12.alloc (.cells #[.int .i64 0, .int .i64 0] 26)) := g12.alloc _ _
            refine ⟨fun _ => g13, ?_⟩
            have e13 : (w12.alloc (.cells #[.int .i64 0, .int .i64 0] 26)).heap[w12.heap.size]? = some (.cells #[.int .i64 0, .int .i64 0] 26 (0, 0)) := heap_alloc_new w12 _
            have q13 : Fr no w12 (w12.alloc (.cells #[.int .i64 0, .int .i64 0] 26)) := (Fr.refl no w12).alloc _ _
            have l13 : W1.heap.size ≤ w12.heap.size := g12.size
            have e13x25 := q13.heap e12 (fun f => f)
            have c13 := c12.keep q13
            clear q13
            generalize w12.alloc (.cells #[.int .i64 0, .int .i64 0] 26) = w13 at *
            generalize w12.heap.size = b13 at *
            refine late_all [24] (by kernel_rfl) (by simp) (fun jj hjj => ?_)
            obtain rfl := one_of hjj
            refine late_op rfl rfl (show _ = Result.ok (Next.value (.pointer (some ⟨w13.heap.size, 0, none⟩))) (w13.alloc (.cells #[.bool false, .slice none 0 0, .slice none 0 0] 166)) by kernel_rfl) ?_
            have g14 : Fr no W1 (w13.alloc (.cells #[.bool false, .slice none 0 0, .slice none 0 0] 166)) := g13.alloc _ _
            refine ⟨fun _ => g14, ?_⟩
            have e14 : (w13.alloc (.cells #[.bool false, .slice none 0 0, .slice none 0 0] 166)).heap[w13.heap.size]? = some (.cells #[.bool false, .slice none 0 0, .slice none 0 0] 166 (0, 0)) := heap_alloc_new w13 _
            have q14 : Fr no w13 (w13.alloc (.cells #[.bool false, .slice none 0 0, .slice none 0 0] 166)) := (Fr.refl no w13).alloc _ _
            have l14 : W1.heap.size ≤ w13.heap.size := g13.size
            have e14x23 := q14.heap e13 (fun f => f)
            have e14x25 := q14.heap e13x25 (fun f => f)
            have c14 := c13.keep q14
            clear q14
            generalize w13.alloc (.cells #[.bool false, .slice none 0 0, .slice none 0 0] 166) = w14 at *
            generalize w13.heap.size = b14 at *
            exact late_at (by kernel_rfl) (by kernel_rfl) (CONT (s1, b13, b14, b12) w14 ⟨c14, ⟨l13, l14, l12⟩, e14x23, e14, e14x25, g14⟩)
          · refine late_op rfl rfl (show _ = Result.ok (Next.value (.pointer (some ⟨w12.heap.size, 0, none⟩))) (w12.alloc (.cells #[.bool false, .slice none 0 0, .slice none 0 0] 166)) by kernel_rfl) ?_
            have g15 : Fr no W1 (w12.alloc (.cells #[.bool false, .slice none 0 0, .slice none 0 0] 166)) := g12.alloc _ _
            refine ⟨fun _ => g15, ?_⟩
            have e15 : (w12.alloc (.cells #[.bool false, .slice none 0 0, .slice none 0 0] 166)).heap[w12.heap.size]? = some (.cells #[.bool false, .slice none 0 0, .slice none 0 0] 166 (0, 0)) := heap_alloc_new w12 _
            have q15 : Fr no w12 (w12.alloc (.cells #[.bool false, .slice none 0 0, .slice none 0 0] 166)) := (Fr.refl no w12).alloc _ _
            have l15 : W1.heap.size ≤ w12.heap.size := g12.size
            have e15x25 := q15.heap e12 (fun f => f)
            have c15 := c12.keep q15
            clear q15
            generalize w12.alloc (.cells #[.bool false, .slice none 0 0, .slice none 0 0] 166) = w15 at *
            generalize w12.heap.size = b15 at *
            refine late_all [23] (by kernel_rfl) (by simp) (fun jj hjj => ?_)
            obtain rfl := one_of hjj
            refine late_op rfl rfl (show _ = Result.ok (Next.value (.pointer (some ⟨w15.heap.size, 0, none⟩))) (w15.alloc (.cells #[.int .i64 0, .int .i64 0] 26)) by kernel_rfl) ?_
            have g16 : Fr no W1 (w15.alloc (.cells #[.int .i64 0, .int .i64 0] 26)) := g15.alloc _ _
            refine ⟨fun _ => g16, ?_⟩
            have e16 : (w15.alloc (.cells #[.int .i64 0, .int .i64 0] 26)).heap[w15.heap.size]? = some (.cells #[.int .i64 0, .int .i64 0] 26 (0, 0)) := heap_alloc_new w15 _
            have q16 : Fr no w15 (w15.alloc (.cells #[.int .i64 0, .int .i64 0] 26)) := (Fr.refl no w15).alloc _ _
            have l16 : W1.heap.size ≤ w15.heap.size := g15.size
            have e16x24 := q16.heap e15 (fun f => f)
            have e16x25 := q16.heap e15x25 (fun f => f)
            have c16 := c15.keep q16
            clear q16
            generalize w15.alloc (.cells #[.int .i64 0, .int .i64 0] 26) = w16 at *
            generalize w15.heap.size = b16 at *
            exact late_at (by kernel_rfl) (by kernel_rfl) (CONT (s1, b16, b15, b12) w16 ⟨c16, ⟨l16, l15, l12⟩, e16, e16x24, e16x25, g16⟩)
      · refine late_op rfl rfl (show _ = Result.ok (Next.value (.pointer (some ⟨W1.drew.heap.size, 0, none⟩))) (W1.drew.alloc (.cells #[.int .i64 0, .int .i64 0] 26)) by kernel_rfl) ?_
        have g17 : Fr no W1 (W1.drew.alloc (.cells #[.int .i64 0, .int .i64 0] 26)) := HS0.out.alloc _ _
        refine ⟨fun _ => g17, ?_⟩
        have e17 : (W1.drew.alloc (.cells #[.int .i64 0, .int .i64 0] 26)).heap[W1.drew.heap.size]? = some (.cells #[.int .i64 0, .int .i64 0] 26 (0, 0)) := heap_alloc_new W1.drew _
        have q17 : Fr no W1.drew (W1.drew.alloc (.cells #[.int .i64 0, .int .i64 0] 26)) := (Fr.refl no W1.drew).alloc _ _
        have l17 : W1.heap.size ≤ W1.drew.heap.size := HS0.out.size
        clear q17
        generalize W1.drew.alloc (.cells #[.int .i64 0, .int .i64 0] 26) = w17 at *
        generalize W1.drew.heap.size = b17 at *
        refine late_all [22, 24, 25] (by kernel_rfl) (by simp) (fun jj hjj => ?_)
        simp only [List.mem_cons, List.not_mem_nil, or_false] at hjj
        rcases hjj with rfl | rfl | rfl
        · refine late_call (f := 141) rfl rfl (by kernel_rfl) (R := fun v w' => ∃ s', v = saV s' ∧ Copied w17 w' ⟨true, ⟨la, x.lo.length, lc⟩, ⟨sa, x.st.length, sc⟩, ⟨ka, kn, kc⟩⟩ s' x.lo x.st) ((HCP.out w17 g17).mono (fun e w' ⟨s', h1, h2⟩ => ⟨_, h1, s', rfl, h2⟩)) (fun v w18 hv => ?_)
          obtain ⟨s18, rfl, cp18⟩ := hv
          have g18 : Fr no W1 w18 := g17.new cp18.fr (fun _ _ f => f)
          refine ⟨fun _ => g18, ?_⟩
          unfold saV
          have e18x23 := cp18.fr.heap e17 (fun f => f)
          have c18 := cp18.base g17
          clear cp18
          refine late_all [24, 25] (by kernel_rfl) (by simp) (fun jj hjj => ?_)
          simp only [List.mem_cons, List.not_mem_nil, or_false] at hjj
          rcases hjj with rfl | rfl
          · refine late_op rfl rfl (show _ = Result.ok (Next.value (.pointer (some ⟨w18.heap.size, 0, none⟩))) (w18.alloc (.cells #[.bool false, .slice none 0 0, .slice none 0 0] 166)) by kernel_rfl) ?_
            have g19 : Fr no W1 (w18.alloc (.cells #[.bool false, .slice none 0 0, .slice none 0 0] 166)) := g18.alloc _ _
            refine ⟨fun _ => g19, ?_⟩
            have e19 : (w18.alloc (.cells #[.bool false, .slice none 0 0, .slice none 0 0] 166)).heap[w18.heap.size]? = some (.cells #[.bool false, .slice none 0 0, .slice none 0 0] 166 (0, 0)) := heap_alloc_new w18 _
            have q19 : Fr no w18 (w18.alloc (.cells #[.bool false, .slice none 0 0, .slice none 0 0] 166)) := (Fr.refl no w18).alloc _ _
            have l19 : W1.heap.size ≤ w18.heap.size := g18.size
            have e19x23 := q19.heap e18x23 (fun f => f)
            have c19 := c18.keep q19
            clear q19
            generalize w18.alloc (.cells #[.bool false, .slice none 0 0, .slice none 0 0] 166) = w19 at *
            generalize w18.heap.size = b19 at *
            refine late_all [25] (by kernel_rfl) (by simp) (fun jj hjj => ?_)
            obtain rfl := one_of hjj
            refine late_op rfl rfl (show _ = Result.ok (Next.value (.pointer (some ⟨w19.heap.size, 0, none⟩))) (w19.alloc (.cells #[.bool false, .slice none 0 0, .slice none 0 0, .slice none 0 0] 58)) by kernel_rfl) ?_
            have g20 : Fr no W1 (w19.alloc (.cells #[.bool false, .slice none 0 0, .slice none 0 0, .slice none 0 0] 58)) := g19.alloc _ _
            refine ⟨fun _ => g20, ?_⟩
            have e20 : (w19.alloc (.cells #[.bool false, .slice none 0 0, .slice none 0 0, .slice none 0 0] 58)).heap[w19.heap.size]? = some (.cells #[.bool false, .slice none 0 0, .slice none 0 0, .slice none 0 0] 58 (0, 0)) := heap_alloc_new w19 _
            have q20 : Fr no w19 (w19.alloc (.cells #[.bool false, .slice none 0 0, .slice none 0 0, .slice none 0 0] 58)) := (Fr.refl no w19).alloc _ _
            have l20 : W1.heap.size ≤ w19.heap.size := g19.size
            have e20x24 := q20.heap e19 (fun f => f)
            have e20x23 := q20.heap e19x23 (fun f => f)
            have c20 := c19.keep q20
            clear q20
            generalize w19.alloc (.cells #[.bool false, .slice none 0 0, .slice none 0 0, .slice none 0 0] 58) = w20 at *
            generalize w19.heap.size = b20 at *
            exact late_at (by kernel_rfl) (by kernel_rfl) (CONT (s18, b17, b19, b20) w20 ⟨c20, ⟨l17, l19, l20⟩, e20x23, e20x24, e20, g20⟩)
          · refine late_op rfl rfl (show _ = Result.ok (Next.value (.pointer (some ⟨w18.heap.size, 0, none⟩))) (w18.alloc (.cells #[.bool false, .slice none 0 0, .slice none 0 0, .slice none 0 0] 58)) by kernel_rfl) ?_
            have g21 : Fr no W1 (w18.alloc (.cells #[.bool false, .slice none 0 0, .slice none 0 0, .slice none 0 0] 58)) := g18.alloc _ _
            refine ⟨fun _ => g21, ?_⟩
            have e21 : (w18.alloc (.cells #[.bool false, .slice none 0 0, .slice none 0 0, .slice none 0 0] 58)).heap[w18.heap.size]? = some (.cells #[.bool false, .slice none 0 0, .slice none 0 0, .slice none 0 0] 58 (0, 0)) := heap_alloc_new w18 _
            have q21 : Fr no w18 (w18.alloc (.cells #[.bool false, .slice none 0 0, .slice none 0 0, .slice none 0 0] 58)) := (Fr.refl no w18).alloc _ _
            have l21 : W1.heap.size ≤ w18.heap.size := g18.size
            have e21x23 := q21.heap e18x23 (fun f => f)
            have c21 := c18.keep q21
            clear q21
            generalize w18.alloc (.cells #[.bool false, .slice none 0 0, .slice none 0 0, .slice none 0 0] 58) = w21 at *
            generalize w18.heap.size = b21 at *
            refine late_all [24] (by kernel_rfl) (by simp) (fun jj hjj => ?_)
            obtain rfl := one_of hjj
            refine late_op rfl rfl (show _ = Result.ok (Next.value (.pointer (some ⟨w21.heap.size, 0, none⟩))) (w21.alloc (.cells #[.bool false, .slice none 0 0, .slice none 0 0] 166)) by kernel_rfl) ?_
            have g22 : Fr no W1 (w21.alloc (.cells #[.bool false, .slice none 0 0, .slice none 0 0] 166)) := g21.alloc _ _
            refine ⟨fun _ => g22, ?_⟩
            have e22 : (w21.alloc (.cells #[.bool false, .slice none 0 0, .slice none 0 0] 166)).heap[w21.heap.size]? = some (.cells #[.bool false, .slice none 0 0, .slice none 0 0] 166 (0, 0)) := heap_alloc_new w21 _
            have q22 : Fr no w21 (w21.alloc (.cells #[.bool false, .slice none 0 0, .slice none 0 0] 166)) := (Fr.refl no w21).alloc _ _
            have l22 : W1.heap.size ≤ w21.heap.size := g21.size
            have e22x25 := q22.heap e21 (fun f => f)
            have e22x23 := q22.heap e21x23 (fun f => f)
            have c22 := c21.keep q22
            clear q22
            generalize w21.alloc (.cells #[.bool false, .slice none 0 0, .slice none 0 0] 166) = w22 at *
            generalize w21.heap.size = b22 at *
            exact late_at (by kernel_rfl) (by kernel_rfl) (CONT (s18, b17, b22, b21) w22 ⟨c22, ⟨l17, l22, l21⟩, e22x23, e22, e22x25, g22⟩)
        · refine late_op rfl rfl (show _ = Result.ok (Next.value (.pointer (some ⟨w17.heap.size, 0, none⟩))) (w17.alloc (.cells #[.bool false, .slice none 0 0, .slice none 0 0] 166)) by kernel_rfl) ?_
          have g23 : Fr no W1 (w17.alloc (.cells #[.bool false, .slice none 0 0, .slice none 0 0] 166)) := g17.alloc _ _
          refine ⟨fun _ => g23, ?_⟩
          have e23 : (w17.alloc (.cells #[.bool false, .slice none 0 0, .slice none 0 0] 166)).heap[w17.heap.size]? = some (.cells #[.bool false, .slice none 0 0, .slice none 0 0] 166 (0, 0)) := heap_alloc_new w17 _
          have q23 : Fr no w17 (w17.alloc (.cells #[.bool false, .slice none 0 0, .slice none 0 0] 166)) := (Fr.refl no w17).alloc _ _
          have l23 : W1.heap.size ≤ w17.heap.size := g17.size
          have e23x23 := q23.heap e17 (fun f => f)
          clear q23
          generalize w17.alloc (.cells #[.bool false, .slice none 0 0, .slice none 0 0] 166) = w23 at *
          generalize w17.heap.size = b23 at *
          refine late_all [22, 25] (by kernel_rfl) (by simp) (fun jj hjj => ?_)
          simp only [List.mem_cons, List.not_mem_nil, or_false] at hjj
          rcases hjj with rfl | rfl
          · refine late_call (f := 141) rfl rfl (by kernel_rfl) (R := fun v w' => ∃ s', v = saV s' ∧ Copied w23 w' ⟨true, ⟨la, x.lo.length, lc⟩, ⟨sa, x.st.length, sc⟩, ⟨ka, kn, kc⟩⟩ s' x.lo x.st) ((HCP.out w23 g23).mono (fun e w' ⟨s', h1, h2⟩ => ⟨_, h1, s', rfl, h2⟩)) (fun v w24 hv => ?_)
            obtain ⟨s24, rfl, cp24⟩ := hv
            have g24 : Fr no W1 w24 := g23.new cp24.fr (fun _ _ f => f)
            refine ⟨fun _ => g24, ?_⟩
            unfold saV
            have e24x24 := cp24.fr.heap e23 (fun f => f)
            have e24x23 := cp24.fr.heap e23x23 (fun f => f)
            have c24 := cp24.base g23
            clear cp24
            refine late_all [25] (by kernel_rfl) (by simp) (fun jj hjj => ?_)
            obtain rfl := one_of hjj
            refine late_op rfl rfl (show _ = Result.ok (Next.value (.pointer (some ⟨w24.heap.size, 0, none⟩))) (w24.alloc (.cells #[.bool false, .slice none 0 0, .slice none 0 0, .slice none 0 0] 58)) by kernel_rfl) ?_
            have g25 : Fr no W1 (w24.alloc (.cells #[.bool false, .slice none 0 0, .slice none 0 0, .slice none 0 0] 58)) := g24.alloc _ _
            refine ⟨fun _ => g25, ?_⟩
            have e25 : (w24.alloc (.cells #[.bool false, .slice none 0 0, .slice none 0 0, .slice none 0 0] 58)).heap[w24.heap.size]? = some (.cells #[.bool false, .slice none 0 0, .slice none 0 0, .slice none 0 0] 58 (0, 0)) := heap_alloc_new w24 _
            have q25 : Fr no w24 (w24.alloc (.cells #[.bool false, .slice none 0 0, .slice none 0 0, .slice none 0 0] 58)) := (Fr.refl no w24).alloc _ _
            have l25 : W1.heap.size ≤ w24.heap.size := g24.size
            have e25x24 := q25.heap e24x24 (fun f => f)
            have e25x23 := q25.heap e24x23 (fun f => f)
            have c25 := c24.keep q25
            clear q25
            generalize w24.alloc (.cells #[.bool false, .slice none 0 0, .slice none 0 0, .slice none 0 0] 58) = w25 at *
            generalize w24.heap.size = b25 at *
            exact late_at (by kernel_rfl) (by kernel_rfl) (CONT (s24, b17, b23, b25) w25 ⟨c25, ⟨l17, l23, l25⟩, e25x23, e25x24, e25, g25⟩)
          · refine late_op rfl rfl (show _ = Result.ok (Next.value (.pointer (some ⟨w23.heap.size, 0, none⟩))) (w23.alloc (.cells #[.bool false, .slice none 0 0, .slice none 0 0, .slice none 0 0] 58)) by kernel_rfl) ?_
            have g26 : Fr no W1 (w23.alloc (.cells #[.bool false, .slice none 0 0, .slice none 0 0, .slice none 0 0] 58)) := g23.alloc _ _
            refine ⟨fun _ => g26, ?_⟩
            have e26 : (w23.alloc (.cells #[.bool false, .slice none 0 0, .slice none 0 0, .slice none 0 0] 58)).heap[w23.heap.size]? = some (.cells #[.bool false, .slice none 0 0, .slice none 0 0, .slice none 0 0] 58 (0, 0)) := heap_alloc_new w23 _
            have q26 : Fr no w23 (w23.alloc (.cells #[.bool false, .slice none 0 0, .slice none 0 0, .slice none 0 0] 58)) := (Fr.refl no w23).alloc _ _
            have l26 : W1.heap.size ≤ w23.heap.size := g23.size
            have e26x24 := q26.heap e23 (fun f => f)
            have e26x23 := q26.heap e23x23 (fun f => f)
            clear q26
            generalize w23.alloc (.cells #[.bool false, .slice none 0 0, .slice none 0 0, .slice none 0 0] 58) = w26 at *
            generalize w23.heap.size = b26 at *
            refine late_all [22] (by kernel_rfl) (by simp) (fun jj hjj => ?_)
            obtain rfl := one_of hjj
            refine late_call (f := 141) rfl rfl (by kernel_rfl) (R := fun v w' => ∃ s', v = saV s' ∧ Copied w26 w' ⟨true, ⟨la, x.lo.length, lc⟩, ⟨sa, x.st.length, sc⟩, ⟨ka, kn, kc⟩⟩ s' x.lo x.st) ((HCP.out w26 g26).mono (fun e w' ⟨s', h1, h2⟩ => ⟨_, h1, s', rfl, h2⟩)) (fun v w27 hv => ?_)
            obtain ⟨s27, rfl, cp27⟩ := hv
            have g27 : Fr no W1 w27 := g26.new cp27.fr (fun _ _ f => f)
            refine ⟨fun _ => g27, ?_⟩
            unfold saV
            have e27x25 := cp27.fr.heap e26 (fun f => f)
            have e27x24 := cp27.fr.heap e26x24 (fun f => f)
            have e27x23 := cp27.fr.heap e26x23 (fun f => f)
            have c27 := cp27.base g26
            clear cp27
            exact late_at (by kernel_rfl) (by kernel_rfl) (CONT (s27, b17, b23, b26) w27 ⟨c27, ⟨l17, l23, l26⟩, e27x23, e27x24, e27x25, g27⟩)
        · refine late_op rfl rfl (show _ = Result.ok (Next.value (.pointer (some ⟨w17.heap.size, 0, none⟩))) (w17.alloc (.cells #[.bool false, .slice none 0 0, .slice none 0 0, .slice none 0 0] 58)) by kernel_rfl) ?_
          have g28 : Fr no W1 (w17.alloc (.cells #[.bool false, .slice none 0 0, .slice none 0 0, .slice none 0 0] 58)) := g17.alloc _ _
          refine ⟨fun _ => g28, ?_⟩
          have e28 : (w17.alloc (.cells #[.bool false, .slice none 0 0, .slice none 0 0, .slice none 0 0] 58)).heap[w17.heap.size]? = some (.cells #[.bool false, .slice none 0 0, .slice none 0 0, .slice none 0 0] 58 (0, 0)) := heap_alloc_new w17 _
          have q28 : Fr no w17 (w17.alloc (.cells #[.bool false, .slice none 0 0, .slice none 0 0, .slice none 0 0] 58)) := (Fr.refl no w17).alloc _ _
          have l28 : W1.heap.size ≤ w17.heap.size := g17.size
          have e28x23 := q28.heap e17 (fun f => f)
          clear q28
          generalize w17.alloc (.cells #[.bool false, .slice none 0 0, .slice none 0 0, .slice none 0 0] 58) = w28 at *
          generalize w17.heap.size = b28 at *
          refine late_all [22, 24] (by kernel_rfl) (by simp) (fun jj hjj => ?_)
          simp only [List.mem_cons, List.not_mem_nil, or_false] at hjj
          rcases hjj with rfl | rfl
          · refine late_call (f := 141) rfl rfl (by kernel_rfl) (R := fun v w' => ∃ s', v = saV s' ∧ Copied w28 w' ⟨true, ⟨la, x.lo.length, lc⟩, ⟨sa, x.st.length, sc⟩, ⟨ka, kn, kc⟩⟩ s' x.lo x.st) ((HCP.out w28 g28).mono (fun e w' ⟨s', h1, h2⟩ => ⟨_, h1, s', rfl, h2⟩)) (fun v w29 hv => ?_)
            obtain ⟨s29, rfl, cp29⟩ := hv
            have g29 : Fr no W1 w29 := g28.new cp29.fr (fun _ _ f => f)
            refine ⟨fun _ => g29, ?_⟩
            unfold saV
            have e29x25 := cp29.fr.heap e28 (fun f => f)
            have e29x23 := cp29.fr.heap e28x23 (fun f => f)
            have c29 := cp29.base g28
            clear cp29
            refine late_all [24] (by kernel_rfl) (by simp) (fun jj hjj => ?_)
            obtain rfl := one_of hjj
            refine late_op rfl rfl (show _ = Result.ok (Next.value (.pointer (some ⟨w29.heap.size, 0, none⟩))) (w29.alloc (.cells #[.bool false, .slice none 0 0, .slice none 0 0] 166)) by kernel_rfl) ?_
            have g30 : Fr no W1 (w29.alloc (.cells #[.bool false, .slice none 0 0, .slice none 0 0] 166)) := g29.alloc _ _
            refine ⟨fun _ => g30, ?_⟩
            have e30 : (w29.alloc (.cells #[.bool false, .slice none 0 0, .slice none 0 0] 166)).heap[w29.heap.size]? = some (.cells #[.bool false, .slice none 0 0, .slice none 0 0] 166 (0, 0)) := heap_alloc_new w29 _
            have q30 : Fr no w29 (w29.alloc (.cells #[.bool false, .slice none 0 0, .slice none 0 0] 166)) := (Fr.refl no w29).alloc _ _
            have l30 : W1.heap.size ≤ w29.heap.size := g29.size
            have e30x25 := q30.heap e29x25 (fun f => f)
            have e30x23 := q30.heap e29x23 (fun f => f)
            have c30 := c29.keep q30
            clear q30
            generalize w29.alloc (.cells #[.bool false, .slice none 0 0, .slice none 0 0] 166) = w30 at *
            generalize w29.heap.size = b30 at *
            exact late_at (by kernel_rfl) (by kernel_rfl) (CONT (s29, b17, b30, b28) w30 ⟨c30, ⟨l17, l30, l28⟩, e30x23, e30, e30x25, g30⟩)
          · refine late_op rfl rfl (show _ = Result.ok (Next.value (.pointer (some ⟨w28.heap.size, 0, none⟩))) (w28.alloc (.cells #[.bool false, .slice none 0 0, .slice none 0 0] 166)) by kernel_rfl) ?_
            have g31 : Fr no W1 (w28.alloc (.cells #[.bool false, .slice none 0 0, .slice none 0 0] 166)) := g28.alloc _ _
            refine ⟨fun _ => g31, ?_⟩
            have e31 : (w28.alloc (.cells #[.bool false, .slice none 0 0, .slice none 0 0] 166)).heap[w28.heap.size]? = some (.cells #[.bool false, .slice none 0 0, .slice none 0 0] 166 (0, 0)) := heap_alloc_new w28 _
            have q31 : Fr no w28 (w28.alloc (.cells #[.bool false, .slice none 0 0, .slice none 0 0] 166)) := (Fr.refl no w28).alloc _ _
            have l31 : W1.heap.size ≤ w28.heap.size := g28.size
            have e31x25 := q31.heap e28 (fun f => f)
            have e31x23 := q31.heap e28x23 (fun f => f)
            clear q31
            generalize w28.alloc (.cells #[.bool false, .slice none 0 0, .slice none 0 0] 166) = w31 at *
            generalize w28.heap.size = b31 at *
            refine late_all [22] (by kernel_rfl) (by simp) (fun jj hjj => ?_)
            obtain rfl := one_of hjj
            refine late_call (f := 141) rfl rfl (by kernel_rfl) (R := fun v w' => ∃ s', v = saV s' ∧ Copied w31 w' ⟨true, ⟨la, x.lo.length, lc⟩, ⟨sa, x.st.length, sc⟩, ⟨ka, kn, kc⟩⟩ s' x.lo x.st) ((HCP.out w31 g31).mono (fun e w' ⟨s', h1, h2⟩ => ⟨_, h1, s', rfl, h2⟩)) (fun v w32 hv => ?_)
            obtain ⟨s32, rfl, cp32⟩ := hv
            have g32 : Fr no W1 w32 := g31.new cp32.fr (fun _ _ f => f)
            refine ⟨fun _ => g32, ?_⟩
            unfold saV
            have e32x24 := cp32.fr.heap e31 (fun f => f)
            have e32x25 := cp32.fr.heap e31x25 (fun f => f)
            have e32x23 := cp32.fr.heap e31x23 (fun f => f)
            have c32 := cp32.base g31
            clear cp32
            exact late_at (by kernel_rfl) (by kernel_rfl) (CONT (s32, b17, b31, b28) w32 ⟨c32, ⟨l17, l31, l28⟩, e32x23, e32x24, e32x25, g32⟩)
      · refine late_op rfl rfl (show _ = Result.ok (Next.value (.pointer (some ⟨W1.drew.heap.size, 0, none⟩))) (W1.drew.alloc (.cells #[.bool false, .slice none 0 0, .slice none 0 0] 166)) by kernel_rfl) ?_
        have g33 : Fr no W1 (W1.drew.alloc (.cells #[.bool false, .slice none 0 0, .slice none 0 0] 166)) := HS0.out.alloc _ _
        refine ⟨fun _ => g33, ?_⟩
        have e33 : (W1.drew.alloc (.cells #[.bool false, .slice none 0 0, .slice none 0 0] 166)).heap[W1.drew.heap.size]? = some (.cells #[.bool false, .slice none 0 0, .slice none 0 0] 166 (0, 0)) := heap_alloc_new W1.drew _
        have q33 : Fr no W1.drew (W1.drew.alloc (.cells #[.bool false, .slice none 0 0, .slice none 0 0] 166)) := (Fr.refl no W1.drew).alloc _ _
        have l33 : W1.heap.size ≤ W1.drew.heap.size := HS0.out.size
        clear q33
        generalize W1.drew.alloc (.cells #[.bool false, .slice none 0 0, .slice none 0 0] 166) = w33 at *
        generalize W1.drew.heap.size = b33 at *
        refine late_all [22, 23, 25] (by kernel_rfl) (by simp) (fun jj hjj => ?_)
        simp only [List.mem_cons, List.not_mem_nil, or_false] at hjj
        rcases hjj with rfl | rfl | rfl
        · refine late_call (f := 141) rfl rfl (by kernel_rfl) (R := fun v w' => ∃ s', v = saV s' ∧ Copied w33 w' ⟨true, ⟨la, x.lo.length, lc⟩, ⟨sa, x.st.length, sc⟩, ⟨ka, kn, kc⟩⟩ s' x.lo x.st) ((HCP.out w33 g33).mono (fun e w' ⟨s', h1, h2⟩ => ⟨_, h1, s', rfl, h2⟩)) (fun v w34 hv => ?_)
          obtain ⟨s34, rfl, cp34⟩ := hv
          have g34 : Fr no W1 w34 := g33.new cp34.fr (fun _ _ f => f)
          refine ⟨fun _ => g34, ?_⟩
          unfold saV
          have e34x24 := cp34.fr.heap e33 (fun f => f)
          have c34 := cp34.base g33
          clear cp34
          refine late_all [23, 25] (by kernel_rfl) (by simp) (fun jj hjj => ?_)
          simp only [List.mem_cons, List.not_mem_nil, or_false] at hjj
          rcases hjj with rfl | rfl
          · refine late_op rfl rfl (show _ = Result.ok (Next.value (.pointer (some ⟨w34.heap.size, 0, none⟩))) (w34.alloc (.cells #[.int .i64 0, .int .i64 0] 26)) by kernel_rfl) ?_
            have g35 : Fr no W1 (w34.alloc (.cells #[.int .i64 0, .int .i64 0] 26)) := g34.alloc _ _
            refine ⟨fun _ => g35, ?_⟩
            have e35 : (w34.alloc (.cells #[.int .i64 0, .int .i64 0] 26)).heap[w34.heap.size]? = some (.cells #[.int .i64 0, .int .i64 0] 26 (0, 0)) := heap_alloc_new w34 _
            have q35 : Fr no w34 (w34.alloc (.cells #[.int .i64 0, .int .i64 0] 26)) := (Fr.refl no w34).alloc _ _
            have l35 : W1.heap.size ≤ w34.heap.size := g34.size
            have e35x24 := q35.heap e34x24 (fun f => f)
            have c35 := c34.keep q35
            clear q35
            generalize w34.alloc (.cells #[.int .i64 0, .int .i64 0] 26) = w35 at *
            generalize w34.heap.size = b35 at *
            refine late_all [25] (by kernel_rfl) (by simp) (fun jj hjj => ?_)
            obtain rfl := one_of hjj
            refine late_op rfl rfl (show _ = Result.ok (Next.value (.pointer (some ⟨w35.heap.size, 0, none⟩))) (w35.alloc (.cells #[.bool false, .slice none 0 0, .slice none 0 0, .slice none 0 0] 58)) by kernel_rfl) ?_
            have g36 : Fr no W1 (w35.alloc (.cells #[.bool false, .slice none 0 0, .slice none 0 0, .slice none 0 0] 58)) := g35.alloc _ _
            refine ⟨fun _ => g36, ?_⟩
            have e36 : (w35.alloc (.cells #[.bool false, .slice none 0 0, .slice none 0 0, .slice none 0 0] 58)).heap[w35.heap.size]? = some (.cells #[.bool false, .slice none 0 0, .slice none 0 0, .slice none 0 0] 58 (0, 0)) := heap_alloc_new w35 _
            have q36 : Fr no w35 (w35.alloc (.cells #[.bool false, .slice none 0 0, .slice none 0 0, .slice none 0 0] 58)) := (Fr.refl no w35).alloc _ _
            have l36 : W1.heap.size ≤ w35.heap.size := g35.size
            have e36x23 := q36.heap e35 (fun f => f)
            have e36x24 := q36.heap e35x24 (fun f => f)
            have c36 := c35.keep q36
            clear q36
            generalize w35.alloc (.cells #[.bool false, .slice none 0 0, .slice none 0 0, .slice none 0 0] 58) = w36 at *
            generalize w35.heap.size = b36 at *
            exact late_at (by kernel_rfl) (by kernel_rfl) (CONT (s34, b35, b33, b36) w36 ⟨c36, ⟨l35, l33, l36⟩, e36x23, e36x24, e36, g36⟩)
          · refine late_op rfl rfl (show _ = Result.ok (Next.value (.pointer (some ⟨w34.heap.size, 0, none⟩))) (w34.alloc (.cells #[.bool false, .slice none 0 0, .slice none 0 0, .slice none 0 0] 58)) by kernel_rfl) ?_
            have g37 : Fr no W1 (w34.alloc (.cells #[.bool false, .slice none 0 0, .slice none 0 0, .slice none 0 0] 58)) := g34.alloc _ _
            refine ⟨fun _ => g37, ?_⟩
            have e37 : (w34.alloc (.cells #[.bool false, .slice none 0 0, .slice none 0 0, .slice none 0 0] 58)).heap[w34.heap.size]? = some (.cells #[.bool false, .slice none 0 0, .slice none 0 0, .slice none 0 0] 58 (0, 0)) := heap_alloc_new w34 _
            have q37 : Fr no w34 (w34.alloc (.cells #[.bool false, .slice none 0 0, .slice none 0 0, .slice none 0 0] 58)) := (Fr.refl no w34).alloc _ _
            have l37 : W1.heap.size ≤ w34.heap.size := g34.size
            have e37x24 := q37.heap e34x24 (fun f => f)
            have c37 := c34.keep q37
            clear q37
            generalize w34.alloc (.cells #[.bool false, .slice none 0 0, .slice none 0 0, .slice none 0 0] 58) = w37 at *
            generalize w34.heap.size = b37 at *
            refine late_all [23] (by kernel_rfl) (by simp) (fun jj hjj => ?_)
            obtain rfl := one_of hjj
            refine late_op rfl rfl (show _ = Result.ok (Next.value (.pointer (some ⟨w37.heap.size, 0, none⟩))) (w37.alloc (.cells #[.int .i64 0, .int .i64 0] 26)) by kernel_rfl) ?_
            have g38 : Fr no W1 (w37.alloc (.cells #[.int .i64 0, .int .i64 0] 26)) := g37.alloc _ _
            refine ⟨fun _ => g38, ?_⟩
            have e38 : (w37.alloc (.cells #[.int .i64 0, .int .i64 0] 26)).heap[w37.heap.size]? = some (.cells #[.int .i64 0, .int .i64 0] 26 (0, 0)) := heap_alloc_new w37 _
            have q38 : Fr no w37 (w37.alloc (.cells #[.int .i64 0, .int .i64 0] 26)) := (Fr.refl no w37).alloc _ _
            have l38 : W1.heap.size ≤ w37.heap.size := g37.size
            have e38x25 := q38.heap e37 (fun f => f)
            have e38x24 := q38.heap e37x24 (fun f => f)
            have c38 := c37.keep q38
            clear q38
            generalize w37.alloc (.cells #[.int .i64 0, .int .i64 0] 26) = w38 at *
            generalize w37.heap.size = b38 at *
            exact late_at (by kernel_rfl) (by kernel_rfl) (CONT (s34, b38, b33, b37) w38 ⟨c38, ⟨l38, l33, l37⟩, e38, e38x24, e38x25, g38⟩)
        · refine late_op rfl rfl (show _ = Result.ok (Next.value (.pointer (some ⟨w33.heap.size, 0, none⟩))) (w33.alloc (.cells #[.int .i64 0, .int .i64 0] 26)) by kernel_rfl) ?_
          have g39 : Fr no W1 (w33.alloc (.cells #[.int .i64 0, .int .i64 0] 26)) := g33.alloc _ _
          refine ⟨fun _ => g39, ?_⟩
          have e39 : (w33.alloc (.cells #[.int .i64 0, .int .i64 0] 26)).heap[w33.heap.size]? = some (.cells #[.int .i64 0, .int .i64 0] 26 (0, 0)) := heap_alloc_new w33 _
          have q39 : Fr no w33 (w33.alloc (.cells #[.int .i64 0, .int .i64 0] 26)) := (Fr.refl no w33).alloc _ _
          have l39 : W1.heap.size ≤ w33.heap.size := g33.size
          have e39x24 := q39.heap e33 (fun f => f)
          clear q39
          generalize w33.alloc (.cells #[.int .i64 0, .int .i64 0] 26) = w39 at *
          generalize w33.heap.size = b39 at *
          refine late_all [22, 25] (by kernel_rfl) (by simp) (fun jj hjj => ?_)
          simp only [List.mem_cons, List.not_mem_nil, or_false] at hjj
          rcases hjj with rfl | rfl
          · refine late_call (f := 141) rfl rfl (by kernel_rfl) (R := fun v w' => ∃ s', v = saV s' ∧ Copied w39 w' ⟨true, ⟨la, x.lo.length, lc⟩, ⟨sa, x.st.length, sc⟩, ⟨ka, kn, kc⟩⟩ s' x.lo x.st) ((HCP.out w39 g39).mono (fun e w' ⟨s', h1, h2⟩ => ⟨_, h1, s', rfl, h2⟩)) (fun v w40 hv => ?_)
            obtain ⟨s40, rfl, cp40⟩ := hv
            have g40 : Fr no W1 w40 := g39.new cp40.fr (fun _ _ f => f)
            refine ⟨fun _ => g40, ?_⟩
            unfold saV
            have e40x23 := cp40.fr.heap e39 (fun f => f)
            have e40x24 := cp40.fr.heap e39x24 (fun f => f)
            have c40 := cp40.base g39
            clear cp40
            refine late_all [25] (by kernel_rfl) (by simp) (fun jj hjj => ?_)
            obtain rfl := one_of hjj
            refine late_op rfl rfl (show _ = Result.ok (Next.value (.pointer (some ⟨w40.heap.size, 0, none⟩))) (w40.alloc (.cells #[.bool false, .slice none 0 0, .slice none 0 0, .slice none 0 0] 58)) by kernel_rfl) ?_
            have g41 : Fr no W1 (w40.alloc (.cells #[.bool false, .slice none 0 0, .slice none 0 0, .slice none 0 0] 58)) := g40.alloc _ _
            refine ⟨fun _ => g41, ?_⟩
            have e41 : (w40.alloc (.cells #[.bool false, .slice none 0 0, .slice none 0 0, .slice none 0 0] 58)).heap[w40.heap.size]? = some (.cells #[.bool false, .slice none 0 0, .slice none 0 0, .slice none 0 0] 58 (0, 0)) := heap_alloc_new w40 _
            have q41 : Fr no w40 (w40.alloc (.cells #[.bool false, .slice none 0 0, .slice none 0 0, .slice none 0 0] 58)) := (Fr.refl no w40).alloc _ _
            have l41 : W1.heap.size ≤ w40.heap.size := g40.size
            have e41x23 := q41.heap e40x23 (fun f => f)
            have e41x24 := q41.heap e40x24 (fun f => f)
            have c41 := c40.keep q41
            clear q41
            generalize w40.alloc (.cells #[.bool false, .slice none 0 0, .slice none 0 0, .slice none 0 0] 58) = w41 at *
            generalize w40.heap.size = b41 at *
            exact late_at (by kernel_rfl) (by kernel_rfl) (CONT (s40, b39, b33, b41) w41 ⟨c41, ⟨l39, l33, l41⟩, e41x23, e41x24, e41, g41⟩)
          · refine late_op rfl rfl (show _ = Result.ok (Next.value (.pointer (some ⟨w39.heap.size, 0, none⟩))) (w39.alloc (.cells #[.bool false, .slice none 0 0, .slice none 0 0, .slice none 0 0] 58)) by kernel_rfl) ?_
            have g42 : Fr no W1 (w39.alloc (.cells #[.bool false, .slice none 0 0, .slice none 0 0, .slice none 0 0] 58)) := g39.alloc _ _
            refine ⟨fun _ => g42, ?_⟩
            have e42 : (w39.alloc (.cells #[.bool false, .slice none 0 0, .slice none 0 0, .slice none 0 0] 58)).heap[w39.heap.size]? = some (.cells #[.bool false, .slice none 0 0, .slice none 0 0, .slice none 0 0] 58 (0, 0)) := heap_alloc_new w39 _
            have q42 : Fr no w39 (w39.alloc (.cells #[.bool false, .slice none 0 0, .slice none 0 0, .slice none 0 0] 58)) := (Fr.refl no w39).alloc _ _
            have l42 : W1.heap.size ≤ w39.heap.size := g39.size
            have e42x23 := q42.heap e39 (fun f => f)
            have e42x24 := q42.heap e39x24 (fun f => f)
            clear q42
            generalize w39.alloc (.cells #[.bool false, .slice none 0 0, .slice none 0 0, .slice none 0 0] 58) = w42 at *
            generalize w39.heap.size = b42 at *
            refine late_all [22] (by kernel_rfl) (by simp) (fun jj hjj => ?_)
            obtain rfl := one_of hjj
            refine late_call (f := 141) rfl rfl (by kernel_rfl) (R := fun v w' => ∃ s', v = saV s' ∧ Copied w42 w' ⟨true, ⟨la, x.lo.length, lc⟩, ⟨sa, x.st.length, sc⟩, ⟨ka, kn, kc⟩⟩ s' x.lo x.st) ((HCP.out w42 g42).mono (fun e w' ⟨s', h1, h2⟩ => ⟨_, h1, s', rfl, h2⟩)) (fun v w43 hv => ?_)
            obtain ⟨s43, rfl, cp43⟩ := hv
            have g43 : Fr no W1 w43 := g42.new cp43.fr (fun _ _ f => f)
            refine ⟨fun _ => g43, ?_⟩
            unfold saV
            have e43x25 := cp43.fr.heap e42 (fun f => f)
            have e43x23 := cp43.fr.heap e42x23 (fun f => f)
            have e43x24 := cp43.fr.heap e42x24 (fun f => f)
            have c43 := cp43.base g42
            clear cp43
            exact late_at (by kernel_rfl) (by kernel_rfl) (CONT (s43, b39, b33, b42) w43 ⟨c43, ⟨l39, l33, l42⟩, e43x23, e43x24, e43x25, g43⟩)
        · refine late_op rfl rfl (show _ = Result.ok (Next.value (.pointer (some ⟨w33.heap.size, 0, none⟩))) (w33.alloc (.cells #[.bool false, .slice none 0 0, .slice none 0 0, .slice none 0 0] 58)) by kernel_rfl) ?_
          have g44 : Fr no W1 (w33.alloc (.cells #[.bool false, .slice none 0 0, .slice none 0 0, .slice none 0 0] 58)) := g33.alloc _ _
          refine ⟨fun _ => g44, ?_⟩
          have e44 : (w33.alloc (.cells #[.bool false, .slice none 0 0, .slice none 0 0, .slice none 0 0] 58)).heap[w33.heap.size]? = some (.cells #[.bool false, .slice none 0 0, .slice none 0 0, .slice none 0 0] 58 (0, 0)) := heap_alloc_new w33 _
          have q44 : Fr no w33 (w33.alloc (.cells #[.bool false, .slice none 0 0, .slice none 0 0, .slice none 0 0] 58)) := (Fr.refl no w33).alloc _ _
          have l44 : W1.heap.size ≤ w33.heap.size := g33.size
          have e44x24 := q44.heap e33 (fun f => f)
          clear q44
          generalize w33.alloc (.cells #[.bool false, .slice none 0 0, .slice none 0 0, .slice none 0 0] 58) = w44 at *
          generalize w33.heap.size = b44 at *
          refine late_all [22, 23] (by kernel_rfl) (by simp) (fun jj hjj => ?_)
          simp only [List.mem_cons, List.not_mem_nil, or_false] at hjj
          rcases hjj with rfl | rfl
          · refine late_call (f := 141) rfl rfl (by kernel_rfl) (R := fun v w' => ∃ s', v = saV s' ∧ Copied w44 w' ⟨true, ⟨la, x.lo.length, lc⟩, ⟨sa, x.st.length, sc⟩, ⟨ka, kn, kc⟩⟩ s' x.lo x.st) ((HCP.out w44 g44).mono (fun e w' ⟨s', h1, h2⟩ => ⟨_, h1, s', rfl, h2⟩)) (fun v w45 hv => ?_)
            obtain ⟨s45, rfl, cp45⟩ := hv
            have g45 : Fr no W1 w45 := g44.new cp45.fr (fun _ _ f => f)
            refine ⟨fun _ => g45, ?_⟩
            unfold saV
            have e45x25 := cp45.fr.heap e44 (fun f => f)
            have e45x24 := cp45.fr.heap e44x24 (fun f => f)
            have c45 := cp45.base g44
            clear cp45
            refine late_all [23] (by kernel_rfl) (by simp) (fun jj hjj => ?_)
            obtain rfl := one_of hjj
            refine late_op rfl rfl (show _ = Result.ok (Next.value (.pointer (some ⟨w45.heap.size, 0, none⟩))) (w45.alloc (.cells #[.int .i64 0, .int .i64 0] 26)) by kernel_rfl) ?_
            have g46 : Fr no W1 (w45.alloc (.cells #[.int .i64 0, .int .i64 0] 26)) := g45.alloc _ _
            refine ⟨fun _ => g46, ?_⟩
            have e46 : (w45.alloc (.cells #[.int .i64 0, .int .i64 0] 26)).heap[w45.heap.size]? = some (.cells #[.int .i64 0, .int .i64 0] 26 (0, 0)) := heap_alloc_new w45 _
            have q46 : Fr no w45 (w45.alloc (.cells #[.int .i64 0, .int .i64 0] 26)) := (Fr.refl no w45).alloc _ _
            have l46 : W1.heap.size ≤ w45.heap.size := g45.size
            have e46x25 := q46.heap e45x25 (fun f => f)
            have e46x24 := q46.heap e45x24 (fun f => f)
            have c46 := c45.keep q46
            clear q46
            generalize w45.alloc (.cells #[.int .i64 0, .int .i64 0] 26) = w46 at *
            generalize w45.heap.size = b46 at *
            exact late_at (by kernel_rfl) (by kernel_rfl) (CONT (s45, b46, b33, b44) w46 ⟨c46, ⟨l46, l33, l44⟩, e46, e46x24, e46x25, g46⟩)
          · refine late_op rfl rfl (show _ = Result.ok (Next.value (.pointer (some ⟨w44.heap.size, 0, none⟩))) (w44.alloc (.cells #[.int .i64 0, .int .i64 0] 26)) by kernel_rfl) ?_
            have g47 : Fr no W1 (w44.alloc (.cells #[.int .i64 0, .int .i64 0] 26)) := g44.alloc _ _
            refine ⟨fun _ => g47, ?_⟩
            have e47 : (w44.alloc (.cells #[.int .i64 0, .int .i64 0] 26)).heap[w44.heap.size]? = some (.cells #[.int .i64 0, .int .i64 0] 26 (0, 0)) := heap_alloc_new w44 _
            have q47 : Fr no w44 (w44.alloc (.cells #[.int .i64 0, .int .i64 0] 26)) := (Fr.refl no w44).alloc _ _
            have l47 : W1.heap.size ≤ w44.heap.size := g44.size
            have e47x25 := q47.heap e44 (fun f => f)
            have e47x24 := q47.heap e44x24 (fun f => f)
            clear q47
            generalize w44.alloc (.cells #[.int .i64 0, .int .i64 0] 26) = w47 at *
            generalize w44.heap.size = b47 at *
            refine late_all [22] (by kernel_rfl) (by simp) (fun jj hjj => ?_)
            obtain rfl := one_of hjj
            refine late_call (f := 141) rfl rfl (by kernel_rfl) (R := fun v w' => ∃ s', v = saV s' ∧ Copied w47 w' ⟨true, ⟨la, x.lo.length, lc⟩, ⟨sa, x.st.length, sc⟩, ⟨ka, kn, kc⟩⟩ s' x.lo x.st) ((HCP.out w47 g47).mono (fun e w' ⟨s', h1, h2⟩ => ⟨_, h1, s', rfl, h2⟩)) (fun v w48 hv => ?_)
            obtain ⟨s48, rfl, cp48⟩ := hv
            have g48 : Fr no W1 w48 := g47.new cp48.fr (fun _ _ f => f)
            refine ⟨fun _ => g48, ?_⟩
            unfold saV
            have e48x23 := cp48.fr.heap e47 (fun f => f)
            have e48x25 := cp48.fr.heap e47x25 (fun f => f)
            have e48x24 := cp48.fr.heap e47x24 (fun f => f)
            have c48 := cp48.base g47
            clear cp48
            exact late_at (by kernel_rfl) (by kernel_rfl) (CONT (s48, b47, b33, b44) w48 ⟨c48, ⟨l47, l33, l44⟩, e48x23, e48x24, e48x25, g48⟩)
      · refine late_op rfl rfl (show _ = Result.ok (Next.value (.pointer (some ⟨W1.drew.heap.size, 0, none⟩))) (W1.drew.alloc (.cells #[.bool false, .slice none 0 0, .slice none 0 0, .slice none 0 0] 58)) by kernel_rfl) ?_
        have g49 : Fr no W1 (W1.drew.alloc (.cells #[.bool false, .slice none 0 0, .slice none 0 0, .slice none 0 0] 58)) := HS0.out.alloc _ _
        refine ⟨fun _ => g49, ?_⟩
        have e49 : (W1.drew.alloc (.cells #[.bool false, .slice none 0 0, .slice none 0 0, .slice none 0 0] 58)).heap[W1.drew.heap.size]? = some (.cells #[.bool false, .slice none 0 0, .slice none 0 0, .slice none 0 0] 58 (0, 0)) := heap_alloc_new W1.drew _
        have q49 : Fr no W1.drew (W1.drew.alloc (.cells #[.bool false, .slice none 0 0, .slice none 0 0, .slice none 0 0] 58)) := (Fr.refl no W1.drew).alloc _ _
        have l49 : W1.heap.size ≤ W1.drew.heap.size := HS0.out.size
        clear q49
        generalize W1.drew.alloc (.cells #[.bool false, .slice none 0 0, .slice none 0 0, .slice none 0 0] 58) = w49 at *
        generalize W1.drew.heap.size = b49 at *
        refine late_all [22, 23, 24] (by kernel_rfl) (by simp) (fun jj hjj => ?_)
        simp only [List.mem_cons, List.not_mem_nil, or_false] at hjj
        rcases hjj with rfl | rfl | rfl
        · refine late_call (f := 141) rfl rfl (by kernel_rfl) (R := fun v w' => ∃ s', v = saV s' ∧ Copied w49 w' ⟨true, ⟨la, x.lo.length, lc⟩, ⟨sa, x.st.length, sc⟩, ⟨ka, kn, kc⟩⟩ s' x.lo x.st) ((HCP.out w49 g49).mono (fun e w' ⟨s', h1, h2⟩ => ⟨_, h1, s', rfl, h2⟩)) (fun v w50 hv => ?_)
          obtain ⟨s50, rfl, cp50⟩ := hv
          have g50 : Fr no W1 w50 := g49.new cp50.fr (fun _ _ f => f)
          refine ⟨fun _ => g50, ?_⟩
          unfold saV
          have e50x25 := cp50.fr.heap e49 (fun f => f)
          have c50 := cp50.base g49
          clear cp50
          refine late_all [23, 24] (by kernel_rfl) (by simp) (fun jj hjj => ?_)
          simp only [List.mem_cons, List.not_mem_nil, or_false] at hjj
          rcases hjj with rfl | rfl
          · refine late_op rfl rfl (show _ = Result.ok (Next.value (.pointer (some ⟨w50.heap.size, 0, none⟩))) (w50.alloc (.cells #[.int .i64 0, .int .i64 0] 26)) by kernel_rfl) ?_
            have g51 : Fr no W1 (w50.alloc (.cells #[.int .i64 0, .int .i64 0] 26)) := g50.alloc _ _
            refine ⟨fun _ => g51, ?_⟩
            have e51 : (w50.alloc (.cells #[.int .i64 0, .int .i64 0] 26)).heap[w50.heap.size]? = some (.cells #[.int .i64 0, .int .i64 0] 26 (0, 0)) := heap_alloc_new w50 _
            have q51 : Fr no w50 (w50.alloc (.cells #[.int .i64 0, .int .i64 0] 26)) := (Fr.refl no w50).alloc _ _
            have l51 : W1.heap.size ≤ w50.heap.size := g50.size
            have e51x25 := q51.heap e50x25 (fun f => f)
            have c51 := c50.keep q51
            clear q51
            generalize w50.alloc (.cells #[.int .i64 0, .int .i64 0] 26) = w51 at *
            generalize w50.heap.size = b51 at *
            refine late_all [24] (by kernel_rfl) (by simp) (fun jj hjj => ?_)
            obtain rfl := one_of hjj
            refine late_op rfl rfl (show _ = Result.ok (Next.value (.pointer (some ⟨w51.heap.size, 0, none⟩))) (w51.alloc (.cells #[.bool false, .slice none 0 0, .slice none 0 0] 166)) by kernel_rfl) ?_
            have g52 : Fr no W1 (w51.alloc (.cells #[.bool false, .slice none 0 0, .slice none 0 0] 166)) := g51.alloc _ _
            refine ⟨fun _ => g52, ?_⟩
            have e52 : (w51.alloc (.cells #[.bool false, .slice none 0 0, .slice none 0 0] 166)).heap[w51.heap.size]? = some (.cells #[.bool false, .slice none 0 0, .slice none 0 0] 166 (0, 0)) := heap_alloc_new w51 _
            have q52 : Fr no w51 (w51.alloc (.cells #[.bool false, .slice none 0 0, .slice none 0 0] 166)) := (Fr.refl no w51).alloc _ _
            have l52 : W1.heap.size ≤ w51.heap.size := g51.size
            have e52x23 := q52.heap e51 (fun f => f)
            have e52x25 := q52.heap e51x25 (fun f => f)
            have c52 := c51.keep q52
            clear q52
            generalize w51.alloc (.cells #[.bool false, .slice none 0 0, .slice none 0 0] 166) = w52 at *
            generalize w51.heap.size = b52 at *
            exact late_at (by kernel_rfl) (by kernel_rfl) (CONT (s50, b51, b52, b49) w52 ⟨c52, ⟨l51, l52, l49⟩, e52x23, e52, e52x25, g52⟩)
          · refine late_op rfl rfl (show _ = Result.ok (Next.value (.pointer (some ⟨w50.heap.size, 0, none⟩))) (w50.alloc (.cells #[.bool false, .slice none 0 0, .slice none 0 0] 166)) by kernel_rfl) ?_
            have g53 : Fr no W1 (w50.alloc (.cells #[.bool false, .slice none 0 0, .slice none 0 0] 166)) := g50.alloc _ _
            refine ⟨fun _ => g53, ?_⟩
            have e53 : (w50.alloc (.cells #[.bool false, .slice none 0 0, .slice none 0 0] 166)).heap[w50.heap.size]? = some (.cells #[.bool false, .slice none 0 0, .slice none 0 0] 166 (0, 0)) := heap_alloc_new w50 _
            have q53 : Fr no w50 (w50.alloc (.cells #[.bool false, .slice none 0 0, .slice none 0 0] 166)) := (Fr.refl no w50).alloc _ _
            have l53 : W1.heap.size ≤ w50.heap.size := g50.size
            have e53x25 := q53.heap e50x25 (fun f => f)
            have c53 := c50.keep q53
            clear q53
            generalize w50.alloc (.cells #[.bool false, .slice none 0 0, .slice none 0 0] 166) = w53 at *
            generalize w50.heap.size = b53 at *
            refine late_all [23] (by kernel_rfl) (by simp) (fun jj hjj => ?_)
            obtain rfl := one_of hjj
            refine late_op rfl rfl (show _ = Result.ok (Next.value (.pointer (some ⟨w53.heap.size, 0, none⟩))) (w53.alloc (.cells #[.int .i64 0, .int .i64 0] 26)) by kernel_rfl) ?_
            have g54 : Fr no W1 (w53.alloc (.cells #[.int .i64 0, .int .i64 0] 26)) := g53.alloc _ _
            refine ⟨fun _ => g54, ?_⟩
            have e54 : (w53.alloc (.cells #[.int .i64 0, .int .i64 0] 26)).heap[w53.heap.size]? = some (.cells #[.int .i64 0, .int .i64 0] 26 (0, 0)) := heap_alloc_new w53 _
            have q54 : Fr no w53 (w53.alloc (.cells #[.int .i64 0, .int .i64 0] 26)) := (Fr.refl no w53).alloc _ _
            have l54 : W1.heap.size ≤ w53.heap.size := g53.size
            have e54x24 := q54.heap e53 (fun f => f)
            have e54x25 := q54.heap e53x25 (fun f => f)
            have c54 := c53.keep q54
            clear q54
            generalize w53.alloc (.cells #[.int .i64 0, .int .i64 0] 26) = w54 at *
            generalize w53.heap.size = b54 at *
            exact late_at (by kernel_rfl) (by kernel_rfl) (CONT (s50, b54, b53, b49) w54 ⟨c54, ⟨l54, l53, l49⟩, e54, e54x24, e54x25, g54⟩)
        · refine late_op rfl rfl (show _ = Result.ok (Next.value (.pointer (some ⟨w49.heap.size, 0, none⟩))) (w49.alloc (.cells #[.int .i64 0, .int .i64 0] 26)) by kernel_rfl) ?_
          have g55 : Fr no W1 (w49.alloc (.cells #[.int .i64 0, .int .i64 0] 26)) := g49.alloc _ _
          refine ⟨fun _ => g55, ?_⟩
          have e55 : (w49.alloc (.cells #[.int .i64 0, .int .i64 0] 26)).heap[w49.heap.size]? = some (.cells #[.int .i64 0, .int .i64 0] 26 (0, 0)) := heap_alloc_new w49 _
          have q55 : Fr no w49 (w49.alloc (.cells #[.int .i64 0, .int .i64 0] 26)) := (Fr.refl no w49).alloc _ _
          have l55 : W1.heap.size ≤ w49.heap.size := g49.size
          have e55x25 := q55.heap e49 (fun f => f)
          clear q55
          generalize w49.alloc (.cells #[.int .i64 0, .int .i64 0] 26) = w55 at *
          generalize w49.heap.size = b55 at *
          refine late_all [22, 24] (by kernel_rfl) (by simp) (fun jj hjj => ?_)
          simp only [List.mem_cons, List.not_mem_nil, or_false] at hjj
          rcases hjj with rfl | rfl
          · refine late_call (f := 141) rfl rfl (by kernel_rfl) (R := fun v w' => ∃ s', v = saV s' ∧ Copied w55 w' ⟨true, ⟨la, x.lo.length, lc⟩, ⟨sa, x.st.length, sc⟩, ⟨ka, kn, kc⟩⟩ s' x.lo x.st) ((HCP.out w55 g55).mono (fun e w' ⟨s', h1, h2⟩ => ⟨_, h1, s', rfl, h2⟩)) (fun v w56 hv => ?_)
            obtain ⟨s56, rfl, cp56⟩ := hv
            have g56 : Fr no W1 w56 := g55.new cp56.fr (fun _ _ f => f)
            refine ⟨fun _ => g56, ?_⟩
            unfold saV
            have e56x23 := cp56.fr.heap e55 (fun f => f)
            have e56x25 := cp56.fr.heap e55x25 (fun f => f)
            have c56 := cp56.base g55
            clear cp56
            refine late_all [24] (by kernel_rfl) (by simp) (fun jj hjj => ?_)
            obtain rfl := one_of hjj
            refine late_op rfl rfl (show _ = Result.ok (Next.value (.pointer (some ⟨w56.heap.size, 0, none⟩))) (w56.alloc (.cells #[.bool false, .slice none 0 0, .slice none 0 0] 166)) by kernel_rfl) ?_
            have g57 : Fr no W1 (w56.alloc (.cells #[.bool false, .slice none 0 0, .slice none 0 0] 166)) := g56.alloc _ _
            refine ⟨fun _ => g57, ?_⟩
            have e57 : (w56.alloc (.cells #[.bool false, .slice none 0 0, .slice none 0 0] 166)).heap[w56.heap.size]? = some (.cells #[.bool false, .slice none 0 0, .slice none 0 0] 166 (0, 0)) := heap_alloc_new w56 _
            have q57 : Fr no w56 (w56.alloc (.cells #[.bool false, .slice none 0 0, .slice none 0 0] 166)) := (Fr.refl no w56).alloc _ _
            have l57 : W1.heap.size ≤ w56.heap.size := g56.size
            have e57x23 := q57.heap e56x23 (fun f => f)
            have e57x25 := q57.heap e56x25 (fun f => f)
            have c57 := c56.keep q57
            clear q57
            generalize w56.alloc (.cells #[.bool false, .slice none 0 0, .slice none 0 0] 166) = w57 at *
            generalize w56.heap.size = b57 at *
            exact late_at (by kernel_rfl) (by kernel_rfl) (CONT (s56, b55, b57, b49) w57 ⟨c57, ⟨l55, l57, l49⟩, e57x23, e57, e57x25, g57⟩)
          · refine late_op rfl rfl (show _ = Result.ok (Next.value (.pointer (some ⟨w55.heap.size, 0, none⟩))) (w55.alloc (.cells #[.bool false, .slice none 0 0, .slice none 0 0] 166)) by kernel_rfl) ?_
            have g58 : Fr no W1 (w55.alloc (.cells #[.bool false, .slice none 0 0, .slice none 0 0] 166)) := g55.alloc _ _
            refine ⟨fun _ => g58, ?_⟩
            have e58 : (w55.alloc (.cells #[.bool false, .slice none 0 0, .slice none 0 0] 166)).heap[w55.heap.size]? = some (.cells #[.bool false, .slice none 0 0, .slice none 0 0] 166 (0, 0)) := heap_alloc_new w55 _
            have q58 : Fr no w55 (w55.alloc (.cells #[.bool false, .slice none 0 0, .slice none 0 0] 166)) := (Fr.refl no w55).alloc _ _
            have l58 : W1.heap.size ≤ w55.heap.size := g55.size
            have e58x23 := q58.heap e55 (fun f => f)
            have e58x25 := q58.heap e55x25 (fun f => f)
            clear q58
            generalize w55.alloc (.cells #[.bool false, .slice none 0 0, .slice none 0 0] 166) = w58 at *
            generalize w55.heap.size = b58 at *
            refine late_all [22] (by kernel_rfl) (by simp) (fun jj hjj => ?_)
            obtain rfl := one_of hjj
            refine late_call (f := 141) rfl rfl (by kernel_rfl) (R := fun v w' => ∃ s', v = saV s' ∧ Copied w58 w' ⟨true, ⟨la, x.lo.length, lc⟩, ⟨sa, x.st.length, sc⟩, ⟨ka, kn, kc⟩⟩ s' x.lo x.st) ((HCP.out w58 g58).mono (fun e w' ⟨s', h1, h2⟩ => ⟨_, h1, s', rfl, h2⟩)) (fun v w59 hv => ?_)
            obtain ⟨s59, rfl, cp59⟩ := hv
            have g59 : Fr no W1 w59 := g58.new cp59.fr (fun _ _ f => f)
            refine ⟨fun _ => g59, ?_⟩
            unfold saV
            have e59x24 := cp59.fr.heap e58 (fun f => f)
            have e59x23 := cp59.fr.heap e58x23 (fun f => f)
            have e59x25 := cp59.fr.heap e58x25 (fun f => f)
            have c59 := cp59.base g58
            clear cp59
            exact late_at (by kernel_rfl) (by kernel_rfl) (CONT (s59, b55, b58, b49) w59 ⟨c59, ⟨l55, l58, l49⟩, e59x23, e59x24, e59x25, g59⟩)
        · refine late_op rfl rfl (show _ = Result.ok (Next.value (.pointer (some ⟨w49.heap.size, 0, none⟩))) (w49.alloc (.cells #[.bool false, .slice none 0 0, .slice none 0 0] 166)) by kernel_rfl) ?_
          have g60 : Fr no W1 (w49.alloc (.cells #[.bool false, .slice none 0 0, .slice none 0 0] 166)) := g49.alloc _ _
          refine ⟨fun _ => g60, ?_⟩
          have e60 : (w49.alloc (.cells #[.bool false, .slice none 0 0, .slice none 0 0] 166)).heap[w49.heap.size]? = some (.cells #[.bool false, .slice none 0 0, .slice none 0 0] 166 (0, 0)) := heap_alloc_new w49 _
          have q60 : Fr no w49 (w49.alloc (.cells #[.bool false, .slice none 0 0, .slice none 0 0] 166)) := (Fr.refl no w49).alloc _ _
          have l60 : W1.heap.size ≤ w49.heap.size := g49.size
          have e60x25 := q60.heap e49 (fun f => f)
          clear q60
          generalize w49.alloc (.cells #[.bool false, .slice none 0 0, .slice none 0 0] 166) = w60 at *
          generalize w49.heap.size = b60 at *
          refine late_all [22, 23] (by kernel_rfl) (by simp) (fun jj hjj => ?_)
          simp only [List.mem_cons, List.not_mem_nil, or_false] at hjj
          rcases hjj with rfl | rfl
          · refine late_call (f := 141) rfl rfl (by kernel_rfl) (R := fun v w' => ∃ s', v = saV s' ∧ Copied w60 w' ⟨true, ⟨la, x.lo.length, lc⟩, ⟨sa, x.st.length, sc⟩, ⟨ka, kn, kc⟩⟩ s' x.lo x.st) ((HCP.out w60 g60).mono (fun e w' ⟨s', h1, h2⟩ => ⟨_, h1, s', rfl, h2⟩)) (fun v w61 hv => ?_)
            obtain ⟨s61, rfl, cp61⟩ := hv
            have g61 : Fr no W1 w61 := g60.new cp61.fr (fun _ _ f => f)
            refine ⟨fun _ => g61, ?_⟩
            unfold saV
            have e61x24 := cp61.fr.heap e60 (fun f => f)
            have e61x25 := cp61.fr.heap e60x25 (fun f => f)
            have c61 := cp61.base g60
            clear cp61
            refine late_all [23] (by kernel_rfl) (by simp) (fun jj hjj => ?_)
            obtain rfl := one_of hjj
            refine late_op rfl rfl (show _ = Result.ok (Next.value (.pointer (some ⟨w61.heap.size, 0, none⟩))) (w61.alloc (.cells #[.int .i64 0, .int .i64 0] 26)) by kernel_rfl) ?_
            have g62 : Fr no W1 (w61.alloc (.cells #[.int .i64 0, .int .i64 0] 26)) := g61.alloc _ _
            refine ⟨fun _ => g62, ?_⟩
            have e62 : (w61.alloc (.cells #[.int .i64 0, .int .i64 0] 26)).heap[w61.heap.size]? = some (.cells #[.int .i64 0, .int .i64 0] 26 (0, 0)) := heap_alloc_new w61 _
            have q62 : Fr no w61 (w61.alloc (.cells #[.int .i64 0, .int .i64 0] 26)) := (Fr.refl no w61).alloc _ _
            have l62 : W1.heap.size ≤ w61.heap.size := g61.size
            have e62x24 := q62.heap e61x24 (fun f => f)
            have e62x25 := q62.heap e61x25 (fun f => f)
            have c62 := c61.keep q62
            clear q62
            generalize w61.alloc (.cells #[.int .i64 0, .int .i64 0] 26) = w62 at *
            generalize w61.heap.size = b62 at *
            exact late_at (by kernel_rfl) (by kernel_rfl) (CONT (s61, b62, b60, b49) w62 ⟨c62, ⟨l62, l60, l49⟩, e62, e62x24, e62x25, g62⟩)
          · refine late_op rfl rfl (show _ = Result.ok (Next.value (.pointer (some ⟨w60.heap.size, 0, none⟩))) (w60.alloc (.cells #[.int .i64 0, .int .i64 0] 26)) by kernel_rfl) ?_
            have g63 : Fr no W1 (w60.alloc (.cells #[.int .i64 0, .int .i64 0] 26)) := g60.alloc _ _
            refine ⟨fun _ => g63, ?_⟩
            have e63 : (w60.alloc (.cells #[.int .i64 0, .int .i64 0] 26)).heap[w60.heap.size]? = some (.cells #[.int .i64 0, .int .i64 0] 26 (0, 0)) := heap_alloc_new w60 _
            have q63 : Fr no w60 (w60.alloc (.cells #[.int .i64 0, .int .i64 0] 26)) := (Fr.refl no w60).alloc _ _
            have l63 : W1.heap.size ≤ w60.heap.size := g60.size
            have e63x24 := q63.heap e60 (fun f => f)
            have e63x25 := q63.heap e60x25 (fun f => f)
            clear q63
            generalize w60.alloc (.cells #[.int .i64 0, .int .i64 0] 26) = w63 at *
            generalize w60.heap.size = b63 at *
            refine late_all [22] (by kernel_rfl) (by simp) (fun jj hjj => ?_)
            obtain rfl := one_of hjj
            refine late_call (f := 141) rfl rfl (by kernel_rfl) (R := fun v w' => ∃ s', v = saV s' ∧ Copied w63 w' ⟨true, ⟨la, x.lo.length, lc⟩, ⟨sa, x.st.length, sc⟩, ⟨ka, kn, kc⟩⟩ s' x.lo x.st) ((HCP.out w63 g63).mono (fun e w' ⟨s', h1, h2⟩ => ⟨_, h1, s', rfl, h2⟩)) (fun v w64 hv => ?_)
            obtain ⟨s64, rfl, cp64⟩ := hv
            have g64 : Fr no W1 w64 := g63.new cp64.fr (fun _ _ f => f)
            refine ⟨fun _ => g64, ?_⟩
            unfold saV
            have e64x23 := cp64.fr.heap e63 (fun f => f)
            have e64x24 := cp64.fr.heap e63x24 (fun f => f)
            have e64x25 := cp64.fr.heap e63x25 (fun f => f)
            have c64 := cp64.base g63
            clear cp64
            exact late_at (by kernel_rfl) (by kernel_rfl) (CONT (s64, b63, b60, b49) w64 ⟨c64, ⟨l63, l60, l49⟩, e64x23, e64x24, e64x25, g64⟩)
  · have HNE : Hid (runErr r ins x ≠ 0) := he
    have hne' : (runErr r ins x == 0) = false := by simpa using he
    generalize runErr r ins x = ee at *
    have hee : ¬ ee = 0 := he
    go_enter Tryz.func126, Tryz.ntmps126
    go_wp2_with fail
    refine MR.mono ?_
    rintro e W1 ⟨rfl, F1⟩
    have Z7 := F1.heap E0 (fun f => f)
    obtain ⟨v0, v1, v2, v3⟩ := box4 Z7
    have fzz := fun o => frozen_at (o := o) Z7
    have HC : Hid _ := And.intro (chain4 Z7 (.bool false) (.slice none 0 0) (.slice none 0 0) (.slice none 0 0)) (frc4 W1 w.heap.size (.bool false) (.slice none 0 0) (.slice none 0 0) (.slice none 0 0))
    have HG : Hid (Fr no w W1) := G0.new F1 (fun _ _ f => f)
    clear MR E0 G0 F1 Z7
    go_wp2_with fail
    refine bodyPost_ret (results_109 _ w.heap.size _ _ _ _ _ HC.out.1 _ rfl rfl) rfl ?_
    exact ⟨⟨false, ⟨none, 0, 0⟩, ⟨none, 0, 0⟩, ⟨none, 0, 0⟩⟩, rfl, fun e => absurd e HNE.out, HG.out.new HC.out.2 (fun k hk e => by omega)⟩
end Go.Proofs.YtpfkigoffllieaaGreatDoor
