/- A law on regions that draw their order: what holds behind each operation, whichever comes next. -/
import Derived.Test.YtalgjpmaafooeaaGreatDoorKae
import Derived.Test.YtalgjpmaafooeaaGreatDoorKam
import Derived.Test.YtalgjpmaafooeaaGreatDoorKan
namespace Go.Proofs.YtalgjpmaafooeaaGreatDoor
section
variable {ops : Array Oper} {Q : Exit → Act → World → Prop} {S : World → Prop} {g : Nat}
end
end Go.Proofs.YtalgjpmaafooeaaGreatDoor
/- Rows of types that are cut and grow. -/
namespace Go.Proofs.YtalgjpmaafooeaaGreatDoor
open Go.ChangeShapes Go.WideShapes Go.ChangeAt Go.RowKit
open H (ix NewV)
theorem own_heap {α : Type} {K : El α} (hK : K.Ok) {w : World} {g : Nat} (l : List α) {cs : Array Value} (hg : w.heap[g]? = some (.cells cs K.e (0, 0))) (hc : cs = (cg K l).toArray) (h : l.length ≤ maxLen) : OwnG K w (.slice (some ⟨g, 0, none⟩) l.length l.length) l := by
 subst hc
 refine ⟨⟨cg_length hK l, .inr ⟨g, l.length, (cg K l).toArray, rfl, Nat.zero_le _, hg, Nat.le_refl _, h, by simp [cg_length hK], ?_⟩⟩, fun k cur t fz hk hc => ?_⟩
 · rw [← cg_length hK]
   exact List.take_of_length_le (by simp)
 · simp only [Value.ownBlock, Option.some.injEq] at hk
   subst hk
   rw [hg] at hc
   simp only [Option.some.injEq, Obj.cells.injEq] at hc
   obtain ⟨rfl, _, _⟩ := hc
   intro u hu
   exact cg_nob hK l u (by simpa using hu)
theorem OwnG.cell1 {α : Type} {K : El α} (hK : K.Ok) {w : World} {g n cap : Nat} {l : List α} (h : OwnG K w (.slice (some ⟨g, 0, none⟩) n cap) l) {k j : Nat} {y : α} (hy : l[k]? = some y) (x : α) (u : Value) (hj : j < K.n) (hx : K.f x = (K.f y).set j u) :
 OwnG K (w.setCell ⟨g, k * K.n + j, none⟩ u) (.slice (some ⟨g, 0, none⟩) n cap) (l.set k x) := by
 obtain ⟨cur, hc, rfl, hn, hm, hs, ht, hnb⟩ := h.cur
 have hk : k < l.length := (List.getElem?_eq_some_iff.1 hy).1
 have hkc : (k + 1) * K.n ≤ cap * K.n := Nat.mul_le_mul_right _ (by omega)
 have hkl : (k + 1) * K.n ≤ l.length * K.n := Nat.mul_le_mul_right _ (by omega)
 rw [Nat.add_mul, Nat.one_mul] at hkc hkl
 refine h.put hK hc (set_at hc) (by simp) hk x (fun j' u' hj' => ?_) (fun j' hj' => ?_)
 · rw [hx] at hj'
   have hj'n : j' < K.n := by
    have := (List.getElem?_eq_some_iff.1 hj').1
    rwa [List.length_set, hK.len] at this
   by_cases e : j' = j
   · subst e
     rw [List.getElem?_set_self (by rw [hK.len]; exact hj)] at hj'
     rw [Array.getElem?_setIfInBounds, if_pos rfl, if_pos (by rw [hs]; omega)]
     exact hj'
   · rw [List.getElem?_set_ne (Ne.symm e)] at hj'
     rw [Array.getElem?_setIfInBounds, if_neg (by omega)]
     have := cg_get hK l k y hy j' u' hj'
     rw [← ht, List.getElem?_take, if_pos (by omega), Array.getElem?_toList] at this
     exact this
 · rw [Array.getElem?_setIfInBounds, if_neg (by omega)]
theorem ne_tag {w : World} {a b : Nat} {x y : Array Value} {s t : TypeId} (ha : w.heap[a]? = some (.cells x s (0, 0))) (hb : w.heap[b]? = some (.cells y t (0, 0))) (h : s ≠ t) : a ≠ b := fun e => by
 subst e
 rw [ha] at hb
 simp only [Option.some.injEq, Obj.cells.injEq] at hb
 exact h hb.2.1
theorem OwnG.take {α : Type} {K : El α} (hK : K.Ok) {w : World} {q : Option Addr} {n cap : Nat} {l : List α} (h : OwnG K w (.slice q n cap) l) (k : Nat) (hk : k ≤ l.length) : OwnG K w (.slice q k cap) (l.take k) := by
 have hlen : (l.take k).length = k := by rw [List.length_take]; omega
 refine ⟨⟨cg_length hK _, ?_⟩, fun g cur t fz hg hc => h.2 g cur t fz (by cases q with | none => exact hg | some a => exact hg) hc⟩
 rcases h.1.2 with ⟨e, h0⟩ | ⟨g, cap', cur, e, hb, hg, hn, hm, hs, ht⟩
 · simp only [Value.slice.injEq] at e
   obtain ⟨rfl, rfl, rfl⟩ := e
   exact .inl ⟨by rw [show k = 0 by omega], by rw [hlen]; omega⟩
 · simp only [Value.slice.injEq] at e
   obtain ⟨rfl, rfl, rfl⟩ := e
   refine .inr ⟨g, cap, cur, by rw [hlen], hb, hg, by rw [hlen]; omega, hm, hs, ?_⟩
   rw [hlen]
   have h1 : (cg K l).take (k * K.n) = cg K (l.take k) := by
    have e1 : cg K l = cg K (l.take k) ++ cg K (l.drop k) := by rw [cg_append, List.take_append_drop]
    rw [e1, List.take_left' (by rw [cg_length hK, hlen])]
   rw [← h1, ← ht, List.take_take]
   rw [Nat.min_eq_left (Nat.mul_le_mul_right _ hk)]
theorem run_apd0 {α : Type} {K : El α} (hK : K.Ok) (w : World) (v : Value) (l : List α) (hown : OwnG K w v l) (x : Value) (m : List α) (hs : Src Tryz.prog K.n K.t x m.length (cg K m) w) (hb : l.length + m.length ≤ 1000000) :
 ∃ v' w', (Builtin.append_ #[K.t, K.t] K.t #[v, x]).run Tryz.prog w = .ok v' w' ∧ OwnG K w' v' (l ++ m) ∧ Sp no v w v' w' := by
 by_cases hz : v = .slice none 0 0 ∧ m = []
 · obtain ⟨rfl, rfl⟩ := hz
   have hl : l = [] := by
    rcases hown.1.2 with ⟨_, h0⟩ | ⟨g, cap, cur, e, _⟩
    · exact List.eq_nil_of_length_eq_zero h0
    · simp at e
   subst hl
   obtain ⟨i0, hi, hz0, hz1, hz2⟩ := info_parts hK.info
   refine ⟨.slice none 0 0, w, ?_, OwnG.nil K w, Sp.refl _ _ _⟩
   have hc : cg K ([] : List α) = [] := rfl
   have hsl := hs.len
   have hsc := hs.cells
   rw [hc] at hsc
   simp only [List.length_nil] at hsl hsc
   rcases hs.kind with ⟨e', hk⟩ | hk <;> simp [Builtin.append_, run_underlying hK.und, sizeOf, typeInfo, hi, hsl, hz1, hsc]
 · exact run_apdG hK w v l hown x m hs (fun e em => hz ⟨e, em⟩) hb
theorem wpList_apd0 {α : Type} {K : El α} (hK : K.Ok) (w : World) {ops : Array Oper} {rest : List Oper} {o : Oper} {a : Act} {Q : Exit → Act → World → Prop}
 (hg : o.guard = none) (ht : o.type = K.t) (s x : Operand) (hop : o.op = Op.call { callee := Callee.builtin Builtin.append, args := #[s, x], argTypes := #[K.t, K.t] })
 (v : Value) (l : List α) (hs : a.eval s = v) (hown : OwnG K w v l) (xv : Value) (hx : a.eval x = xv) (m : List α) (hsrc : Src Tryz.prog K.n K.t xv m.length (cg K m) w) (hb : l.length + m.length ≤ 1000000)
 (hK' : ∀ v' w', OwnG K w' v' (l ++ m) → Sp no v w v' w' → wpList Tryz.prog ops Q rest (a.put o.dst v') w') :
 wpList Tryz.prog ops Q (o :: rest) a w := by
 refine wpList_plain hg fun K2 hK2 => ?_
 obtain ⟨v', w', hrun, r1, r2⟩ := run_apd0 hK w v l hown xv m hsrc hb
 unfold Oper.wp
 simp [execOp, hop, ht, resolve, invoke, builtin, hs, hx, hrun, Result.andThen]
 exact hK2 _ _ (hK' v' w' r1 r2)
end Go.Proofs.YtalgjpmaafooeaaGreatDoor
/- An instruction run in its state: the copies that it works on. -/
namespace Go.Proofs.YtalgjpmaafooeaaGreatDoor
open Go.ChangeShapes Go.WideShapes Go.ChangeAt Go.RowKit
open H (ix NewV)
theorem Copied.keep {w w1 w2 : World} {s s' : Sa} {l t : List Ty} (h : Copied w w1 s s' l t) (hf : Fr no w1 w2) : Copied w w2 s s' l t :=
 ⟨h.r, h.lk, h.lo.keep hf, h.st.keep hf, h.nlo, h.nst, h.ne, h.fr.new hf (fun _ _ f => f)⟩
theorem Copied.base {W w w1 : World} {s s' : Sa} {l t : List Ty} (h : Copied w w1 s s' l t) (hf : Fr no W w) : Copied W w1 s s' l t :=
 ⟨h.r, h.lk, h.lo, h.st, fun k hk => Nat.le_trans hf.size (h.nlo k hk), fun k hk => Nat.le_trans hf.size (h.nst k hk), h.ne, hf.new h.fr (fun _ _ f => f)⟩
theorem Copied.kept1 {W w1 w2 : World} {s s' : Sa} {l t : List Ty} {b : Nat} {cur : Array Value} {ty : TypeId} (h : Copied W w1 s s' l t) (hb : w1.heap[b]? = some (.cells cur ty (0, 0))) (ht : ty ≠ 44) (hl : W.heap.size ≤ b) (hf : Fr (fun k => k = b) w1 w2) : Copied W w2 s s' l t := by
 have nt : ∀ {v : Value} {l : List Ty}, OwnG elTy w1 v l → ∀ k, v.ownBlock = some k → ¬ k = b := fun o k hk e => by
  obtain ⟨cu, hc⟩ := o.tag hk
  rw [e, hb] at hc
  simp only [Option.some.injEq, Obj.cells.injEq] at hc
  exact ht hc.2.1
 exact ⟨h.r, h.lk, h.lo.kept hf (nt h.lo), h.st.kept hf (nt h.st), h.nlo, h.nst, h.ne, h.fr.new hf (fun i hi e => by omega)⟩
theorem bx2 {w : World} {q : Nat} {a0 a1 : Value} {t : TypeId} (h : w.heap[q]? = some (.cells #[a0, a1] t (0, 0))) : w.cell? ⟨q, 0, none⟩ = some a0 ∧ w.cell? ⟨q, 1, none⟩ = some a1 := ⟨cell_at h, cell_at h⟩
theorem bx3 {w : World} {q : Nat} {a0 a1 a2 : Value} {t : TypeId} (h : w.heap[q]? = some (.cells #[a0, a1, a2] t (0, 0))) : w.cell? ⟨q, 0, none⟩ = some a0 ∧ w.cell? ⟨q, 1, none⟩ = some a1 ∧ w.cell? ⟨q, 2, none⟩ = some a2 := ⟨cell_at h, cell_at h, cell_at h⟩
theorem srcTy {w : World} {a : Option Addr} {n c : Nat} {l : List Ty} (h : SlG elTy w (.slice a n c) l) (hc : a = none → c = 0) : Src Tryz.prog elTy.n elTy.t (.slice a n c) l.length (cg elTy l) w := by
 cases a with
 | none =>
  obtain rfl := hc rfl
  have h' := h
  obtain ⟨ad, cap, e, h1, h2, hit⟩ := h
  simp only [Value.slice.injEq] at e
  obtain ⟨rfl, rfl, rfl⟩ := e
  have hl : l = [] := List.eq_nil_of_length_eq_zero (by omega)
  subst hl
  exact Src.ofNil _ okTy.und _
 | some a => exact h.src okTy
def runS (r : Rl) (i : Int × Int) (x : Stt) : Stt :=
 ⟨true, if i.1 = 5 then x.lo.set i.2.toNat (x.st.getD (x.st.length - r.tk.length) top) else x.lo, x.st.take (x.st.length - r.tk.length) ++ (if i.1 = 4 then [x.lo.getD i.2.toNat top] else r.pt)⟩
theorem results_109 (w : World) (r : Nat) (x0 x1 x2 x3 y : Value) (h : w.heap[r]? = some (.cells #[x0, x1, x2, x3] 67 (0, 0))) (tmps : Array Value) (h2 : tmps.getD 4 undef = .pointer (some ⟨r, 0, none⟩)) (h3 : tmps.getD 5 undef = y) :
 (results Tryz.f134 tmps).run Tryz.prog w = .ok (.tuple #[.agg #[x0, x1, x2, x3], y]) w := by
 have hl : (loadVar 67 ⟨r, 0, none⟩).run Tryz.prog w = .ok (.agg #[x0, x1, x2, x3]) w := run_loadVar_row (P := Tryz.prog) w r 67 67 #[x0, x1, x2, x3] (0, 0) _ h Tryz.underlying67 rfl (by kernel_rfl)
 have h2' : tmps[4]?.getD undef = .pointer (some ⟨r, 0, none⟩) := by simpa using h2
 have h3' : tmps[5]?.getD undef = y := by simpa using h3
 simp [results, asAddr, h2', h3', hl]
theorem run_le {r : Rl} {i : Int × Int} {x : Stt} (h : runErr r i x = 0) : ¬ x.st.length < r.tk.length := fun e => by
 unfold runErr at h
 by_cases hn : r.nv = true
 · rw [if_pos hn] at h
   exact absurd h (by decide)
 · rw [if_neg hn, if_pos e] at h
   exact absurd h (by decide)
set_option maxRecDepth 100000 in
set_option maxHeartbeats 8000000 in
theorem run_any (w : World) (f S C c : Nat) (K : Int) (cd : List (Int × Int)) (rl : List Rl) (xs : List Stt) (ch : List Bool) (CN : Con w f S C K cd rl) (FL : Fl w S C c cd.length xs ch)
 (i : Nat) (x : Stt) (hx : xs[i]? = some x) (hr : x.r = true) (r : Rl) (hrl : rl[i]? = some r) (hfit : ∀ t ∈ r.tk, t.k = 1 ∨ t.k = 2 ∨ t.k = 6) (ins : Int × Int) (hins : cd[i]? = some ins)
 (h38 : rd38 ins x.lo) (h7 : ins.1 ≠ 7) (h4 : ins.1 = 4 → 0 ≤ ins.2 ∧ ins.2 < x.lo.length) (h5 : ins.1 = 5 → 0 ≤ ins.2 ∧ ins.2 < x.lo.length ∧ r.tk.length = 1) (hfew : r.tk.length ≤ 1000) (hfew2 : r.pt.length ≤ 1000) :
 Calls Tryz.prog 134 #[.pointer (some ⟨f, 0, none⟩), .int .i64 (i : Int)] w fun e w' => ∃ s', e = .returned (.tuple #[saV s', .int .i64 (runErr r ins x)]) ∧ (runErr r ins x = 0 → s'.r = true ∧ OwnG elTy w' (.slice s'.lo.a s'.lo.n s'.lo.c) (runS r ins x).lo ∧ OwnG elTy w' (.slice s'.st.a s'.st.n s'.st.c) (runS r ins x).st ∧ NewV w (.slice s'.lo.a s'.lo.n s'.lo.c) ∧ NewV w (.slice s'.st.a s'.st.n s'.st.c)) ∧ Fr no w w' := by
 have hil : i < cd.length := (List.getElem?_eq_some_iff.1 hins).1
 have HMR : Hid (∀ w', Fr no w w' → Calls Tryz.prog 140 #[.pointer (some ⟨f, 0, none⟩), .int .i64 (i : Int)] w' fun e w2 => e = .returned (.int .i64 (runErr r ins x)) ∧ Fr no w' w2) := fun w' hf => mayRun_any w' f S C c K cd rl xs ch (CN.keep hf) (FL.keep hf) i x hx hr r hrl hfit ins hins h38 h4 hfew
 have HCN : Hid (∀ w', Fr no w w' → Con w' f S C K cd rl ∧ Fl w' S C c cd.length xs ch) := fun w' hf => ⟨CN.keep hf, FL.keep hf⟩
 obtain ⟨⟨q, a0, -⟩, -, ⟨cb, co, cc, a7, cc1, hcode⟩, -, ⟨R, rs, a10, rs1, rs2, -, rs4⟩, a11, -, -, hfewc⟩ := CN
 obtain ⟨ss, s1, s2, s3, -⟩ := FL.ex
 obtain ⟨sx, hsx⟩ : ∃ sx, ss[i]? = some sx := ⟨_, List.getElem?_eq_getElem (by omega)⟩
 obtain ⟨ru, hru⟩ : ∃ ru, rs[i]? = some ru := ⟨_, List.getElem?_eq_getElem (by omega)⟩
 obtain ⟨rn, rtk, rpt, rpc⟩ := rs4 i ru r hru hrl
 have SA := s3 i sx x hsx hx
 have slo := (SA.lo hr).1.sl okTy
 have sst := (SA.st hr).1.sl okTy
 have hxf := SA.few
 have hcs : ∀ j u, (saC sx)[j]? = some u → w.cell? ⟨S, i * 4 + j, none⟩ = some u := fun j u hj => by
  obtain ⟨ad, cap, e, -, -, hit⟩ := s1.sl okSa
  simp only [Value.slice.injEq] at e
  obtain ⟨rfl, -, -⟩ := e
  obtain ⟨b, off, e, hcs⟩ := hit i sx hsx
  simp only [Option.some.injEq, Addr.mk.injEq, and_true] at e
  obtain ⟨rfl, rfl⟩ := e
  have := hcs j u hj
  rw [Nat.zero_add] at this
  exact this
 have hcr : ∀ j u, (ruC ru)[j]? = some u → w.cell? ⟨R, i * 3 + j, none⟩ = some u := fun j u hj => by
  obtain ⟨ad, cap', e, -, -, hitr⟩ := rs1
  simp only [Value.slice.injEq] at e
  obtain ⟨rfl, -, -⟩ := e
  obtain ⟨b', off', e, hcr⟩ := hitr i ru hru
  simp only [Option.some.injEq, Addr.mk.injEq, and_true] at e
  obtain ⟨rfl, rfl⟩ := e
  have := hcr j u hj
  rw [Nat.zero_add] at this
  exact this
 have hci : ∀ j u, ([.int .i64 ins.1, .int .i64 ins.2] : List Value)[j]? = some u → w.cell? ⟨cb, co + i * 2 + j, none⟩ = some u := fun j u hj => by
  obtain ⟨k1, k2⟩ := hcode i ins hins
  match j, hj with
  | 0, hj => simp at hj; subst hj; exact k1
  | 1, hj => simp at hj; subst hj; exact k2
  | j + 2, hj => simp at hj
 have hii : (i : Int) < (cd.length : Int) := by omega
 have hsr : sx.r = true := SA.r.trans hr
 obtain ⟨nv, ⟨ta, tn, tc⟩, ⟨pa, pn, pc⟩⟩ := ru
 obtain ⟨sr, ⟨la, ln, lc⟩, ⟨sa, sn, sc⟩, ⟨ka, kn, kc⟩⟩ := sx
 simp only at rn rtk rpt rpc slo sst hsr
 obtain rfl : tn = r.tk.length := by obtain ⟨_, _, e, _⟩ := rtk; simp only [Value.slice.injEq] at e; exact e.2.1
 obtain rfl : pn = r.pt.length := by obtain ⟨_, _, e, _⟩ := rpt; simp only [Value.slice.injEq] at e; exact e.2.1
 obtain rfl : ln = x.lo.length := by obtain ⟨_, _, e, _⟩ := slo; simp only [Value.slice.injEq] at e; exact e.2.1
 obtain rfl : sn = x.st.length := by obtain ⟨_, _, e, _⟩ := sst; simp only [Value.slice.injEq] at e; exact e.2.1
 subst hsr rn
 have HK : Hid (∀ w', Fr no w w' → Src Tryz.prog elTy.n elTy.t (.slice pa r.pt.length pc) r.pt.length (cg elTy r.pt) w' ∧ Fr no w w') := fun w' hf => ⟨srcTy (rpt.kept hf) rpc, hf⟩
 have HCP0 : Hid (∀ w', Fr no w w' → Calls Tryz.prog 141 #[.agg #[.bool true, .slice la x.lo.length lc, .slice sa x.st.length sc, .slice ka kn kc]] w' fun e w2 => ∃ s', e = .returned (saV s') ∧ Copied w' w2 ⟨true, ⟨la, x.lo.length, lc⟩, ⟨sa, x.st.length, sc⟩, ⟨ka, kn, kc⟩⟩ s' x.lo x.st) := fun w' hf => copyState_any w' ⟨true, ⟨la, x.lo.length, lc⟩, ⟨sa, x.st.length, sc⟩, ⟨ka, kn, kc⟩⟩ x.lo x.st (slo.kept hf) (sst.kept hf) hxf.1 hxf.2
 have HL0 : Hid (∀ w', Fr no w w' → w'.cell? ⟨f, 7, none⟩ = some (.slice (some ⟨cb, co, none⟩) cd.length cc) ∧ (∀ j u, ([.int .i64 ins.1, .int .i64 ins.2] : List Value)[j]? = some u → w'.cell? ⟨cb, co + i * 2 + j, none⟩ = some u) ∧ w'.cell? ⟨f, 10, none⟩ = some (.slice (some ⟨R, 0, none⟩) cd.length cd.length) ∧ (∀ j u, ([.bool r.nv, .slice ta r.tk.length tc, .slice pa r.pt.length pc] : List Value)[j]? = some u → w'.cell? ⟨R, i * 3 + j, none⟩ = some u) ∧ w'.cell? ⟨f, 11, none⟩ = some (.slice (some ⟨S, 0, none⟩) cd.length cd.length) ∧ (∀ j u, ([.bool true, .slice la x.lo.length lc, .slice sa x.st.length sc, .slice ka kn kc] : List Value)[j]? = some u → w'.cell? ⟨S, i * 4 + j, none⟩ = some u)) := fun w' hf =>
  ⟨hf.cell a7 (fun f => f), fun j u hj => hf.cell (hci j u hj) (fun f => f), hf.cell a10 (fun f => f), fun j u hj => hf.cell (hcr j u hj) (fun f => f), hf.cell a11 (fun f => f), fun j u hj => hf.cell (hcs j u hj) (fun f => f)⟩
 generalize hcl : cd.length = n at *
 have HIX : Hid (∀ w' : World, (Instr.indexAt 24 (.slice (some ⟨cb, co, none⟩) n cc) (.int .i64 (i : Int))).run Tryz.prog w' = .ok (.pointer (some ⟨cb, co + i * 2, none⟩)) w' ∧ (Instr.indexAt 174 (.slice (some ⟨R, 0, none⟩) n n) (.int .i64 (i : Int))).run Tryz.prog w' = .ok (.pointer (some ⟨R, i * 3, none⟩)) w' ∧ (Instr.indexAt 62 (.slice (some ⟨S, 0, none⟩) n n) (.int .i64 (i : Int))).run Tryz.prog w' = .ok (.pointer (some ⟨S, i * 4, none⟩)) w') := fun w' => by
  refine ⟨?_, ?_, ?_⟩
  · simp [go_sem, hii]
  · simp [go_sem, hii]
  · simp [go_sem, hii]
 clear hcs hcr hci hcode s3 rs4 SA FL rtk rpt slo sst s1 hsx hru hx hrl hins a7 a10 a11 a0 rs1
 generalize hW0 : w.alloc (.cells #[.bool false, .slice none 0 0, .slice none 0 0, .slice none 0 0] 67) = W0
 have G0 : Fr no w W0 := by rw [← hW0]; exact (Fr.refl no w).alloc _ _
 have E0 : W0.heap[w.heap.size]? = some (.cells #[.bool false, .slice none 0 0, .slice none 0 0, .slice none 0 0] 67 (0, 0)) := by rw [← hW0]; exact heap_alloc_new w _
 have MR := HMR.out W0 G0
 by_cases he : runErr r ins x = 0
 · have HLE : Hid (¬ x.st.length < r.tk.length) := run_le he
   rw [he] at MR ⊢
   go_enter Tryz.func134, Tryz.ntmps134
   go_wp2_with fail
   refine MR.mono ?_
   rintro e W1 ⟨rfl, F1⟩
   have g01 : Fr no w W1 := G0.new F1 (fun _ _ f => f)
   have HL : Hid (∀ w', Fr no W1 w' → _) := fun w' hf => HL0.out w' (g01.new hf (fun _ _ f => f))
   have HCP : Hid (∀ w', Fr no W1 w' → _) := fun w' hf => HCP0.out w' (g01.new hf (fun _ _ f => f))
   have HE1 : Hid (W1.heap[w.heap.size]? = some (.cells #[.bool false, .slice none 0 0, .slice none 0 0, .slice none 0 0] 67 (0, 0)) ∧ Fr no w W1) := ⟨F1.heap E0 (fun f => f), g01⟩
   have HS0 : Hid (Fr no W1 W1.drew) := (Fr.refl no W1).drew
   clear MR F1 E0 G0 HL0 HCP0 HMR g01
   go_wp2_with fail
   refine late_begin (S := fun w' => Fr no W1 w') (g := 28) (by kernel_rfl) ?_
   refine lateP 0 (ptr f 0) rfl (fun _ => ev_move 0 _ rfl (by kernel_rfl)) (fun _ => HS0.out) ?_
   refine lateP 1 (ptr f 0) rfl (fun _ => ev_nil 19 ⟨f, 0, none⟩ rfl (by kernel_rfl)) (fun _ => HS0.out) ?_
   refine lateP 2 (ptr f 1) rfl (fun _ => ev_field 176 20 1 (ptr f 0) _ rfl (by kernel_rfl) (by kernel_rfl)) (fun _ => HS0.out) ?_
   refine lateP 3 (ptr f 7) rfl (fun _ => ev_field 47 21 5 (ptr f 1) _ rfl (by kernel_rfl) (by kernel_rfl)) (fun _ => HS0.out) ?_
   refine lateT 4 (.slice (some ⟨cb, co, none⟩) n cc) rfl (fun w' hS => ev_load 24 22 (ptr f 7) _ rfl (by kernel_rfl) (by simp [go_sem, (HL.out w' hS).1])) (HS0.out) ?_
   refine lateP 5 (.int .i64 (i : Int)) rfl (fun _ => ev_move 1 _ rfl (by kernel_rfl)) (fun _ => HS0.out) ?_
   refine lateP 6 (.pointer (some ⟨cb, co + i * 2, none⟩)) rfl (fun _ => ev_index 24 23 24 (.slice (some ⟨cb, co, none⟩) n cc) (.int .i64 (i : Int)) _ rfl (by kernel_rfl) (by kernel_rfl) (HIX.out _).1) (fun _ => HS0.out) ?_
   refine lateT 7 (.agg #[.int .i64 ins.1, .int .i64 ins.2]) rfl (fun w' hS => ev_load 27 25 (.pointer (some ⟨cb, co + i * 2, none⟩)) _ rfl (by kernel_rfl) (run_loadAt_mid (P := Tryz.prog) w' cb (co + i * 2) 27 [.int .i64 ins.1, .int .i64 ins.2] _ (HL.out w' hS).2.1 Tryz.underlying27 rfl (by kernel_rfl))) (HS0.out) ?_
   refine lateP 8 (ptr f 0) rfl (fun _ => ev_move 0 _ rfl (by kernel_rfl)) (fun _ => HS0.out) ?_
   refine lateP 9 (ptr f 0) rfl (fun _ => ev_nil 27 ⟨f, 0, none⟩ rfl (by kernel_rfl)) (fun _ => HS0.out) ?_
   refine lateP 10 (ptr f 10) rfl (fun _ => ev_field 176 28 3 (ptr f 0) _ rfl (by kernel_rfl) (by kernel_rfl)) (fun _ => HS0.out) ?_
   refine lateT 11 (.slice (some ⟨R, 0, none⟩) n n) rfl (fun w' hS => ev_load 174 29 (ptr f 10) _ rfl (by kernel_rfl) (by simp [go_sem, (HL.out w' hS).2.2.1])) (HS0.out) ?_
   refine lateP 12 (.int .i64 (i : Int)) rfl (fun _ => ev_move 1 _ rfl (by kernel_rfl)) (fun _ => HS0.out) ?_
   refine lateP 13 (.pointer (some ⟨R, i * 3, none⟩)) rfl (fun _ => ev_index 174 30 31 (.slice (some ⟨R, 0, none⟩) n n) (.int .i64 (i : Int)) _ rfl (by kernel_rfl) (by kernel_rfl) (HIX.out _).2.1) (fun _ => HS0.out) ?_
   refine lateT 14 (.agg #[.bool r.nv, .slice ta r.tk.length tc, .slice pa r.pt.length pc]) rfl (fun w' hS => ev_load 195 32 (.pointer (some ⟨R, i * 3, none⟩)) _ rfl (by kernel_rfl) (run_loadAt_mid (P := Tryz.prog) w' R (i * 3) 195 [.bool r.nv, .slice ta r.tk.length tc, .slice pa r.pt.length pc] _ (HL.out w' hS).2.2.2.1 Tryz.underlying195 rfl (by kernel_rfl))) (HS0.out) ?_
   refine lateP 15 (ptr f 0) rfl (fun _ => ev_move 0 _ rfl (by kernel_rfl)) (fun _ => HS0.out) ?_
   refine lateP 16 (ptr f 0) rfl (fun _ => ev_nil 34 ⟨f, 0, none⟩ rfl (by kernel_rfl)) (fun _ => HS0.out) ?_
   refine lateP 17 (ptr f 11) rfl (fun _ => ev_field 176 35 4 (ptr f 0) _ rfl (by kernel_rfl) (by kernel_rfl)) (fun _ => HS0.out) ?_
   refine lateT 18 (.slice (some ⟨S, 0, none⟩) n n) rfl (fun w' hS => ev_load 62 36 (ptr f 11) _ rfl (by kernel_rfl) (by simp [go_sem, (HL.out w' hS).2.2.2.2.1])) (HS0.out) ?_
   refine lateP 19 (.int .i64 (i : Int)) rfl (fun _ => ev_move 1 _ rfl (by kernel_rfl)) (fun _ => HS0.out) ?_
   refine lateP 20 (.pointer (some ⟨S, i * 4, none⟩)) rfl (fun _ => ev_index 62 37 38 (.slice (some ⟨S, 0, none⟩) n n) (.int .i64 (i : Int)) _ rfl (by kernel_rfl) (by kernel_rfl) (HIX.out _).2.2) (fun _ => HS0.out) ?_
   refine lateT 21 (.agg #[.bool true, .slice la x.lo.length lc, .slice sa x.st.length sc, .slice ka kn kc]) rfl (fun w' hS => ev_load 67 39 (.pointer (some ⟨S, i * 4, none⟩)) _ rfl (by kernel_rfl) (run_loadAt_mid (P := Tryz.prog) w' S (i * 4) 67 [.bool true, .slice la x.lo.length lc, .slice sa x.st.length sc, .slice ka kn kc] _ (HL.out w' hS).2.2.2.2.2 Tryz.underlying67 rfl (by kernel_rfl))) (HS0.out) ?_
   refine with_cont (m := 3) (Sa × Nat × Nat × Nat) #[true, true, true, true, true, true, true, true, true, true, true, true, true, true, true, true, true, true, true, true, true, true, true, true, true, true, false, false, false] (fun p => { tmps := #[ptr f 0, .int .i64 (i : Int), undef, undef, ptr w.heap.size 0, .int .i64 0, .int .i64 0, .pointer (some ⟨p.2.1, 0, none⟩), .pointer (some ⟨p.2.2.1, 0, none⟩), .pointer (some ⟨p.2.2.2, 0, none⟩), undef, undef, ptr f 0, .int .i64 (i : Int), .int .i64 0, .int .i64 0, .bool false, undef, undef, ptr f 0, ptr f 0, ptr f 1, ptr f 7, .slice (some ⟨cb, co, none⟩) n cc, .int .i64 (i : Int), .pointer (some ⟨cb, co + i * 2, none⟩), .agg #[.int .i64 ins.1, .int .i64 ins.2], ptr f 0, ptr f 0, ptr f 10, .slice (some ⟨R, 0, none⟩) n n, .int .i64 (i : Int), .pointer (some ⟨R, i * 3, none⟩), .agg #[.bool r.nv, .slice ta r.tk.length tc, .slice pa r.pt.length pc], ptr f 0, ptr f 0, ptr f 11, .slice (some ⟨S, 0, none⟩) n n, .int .i64 (i : Int), .pointer (some ⟨S, i * 4, none⟩), .agg #[.bool true, .slice la x.lo.length lc, .slice sa x.st.length sc, .slice ka kn kc], .agg #[.bool p.1.r, .slice p.1.lo.a p.1.lo.n p.1.lo.c, .slice p.1.st.a p.1.st.n p.1.st.c, .slice p.1.lk.a p.1.lk.n p.1.lk.c], undef, undef, undef, undef, undef, undef, undef, undef, undef, undef, undef, undef, undef, undef, undef, undef, undef, undef, undef, undef, undef, undef, undef, undef, undef, undef, undef, undef, undef, undef, undef, undef, undef, undef, undef, undef, undef, undef, undef, undef, undef, undef, undef, undef, undef, undef, undef, undef, undef, undef, undef, undef, undef], defers := [] }) (fun p w' => Copied W1 w' ⟨true, ⟨la, x.lo.length, lc⟩, ⟨sa, x.st.length, sc⟩, ⟨ka, kn, kc⟩⟩ p.1 x.lo x.st ∧ (W1.heap.size ≤ p.2.1 ∧ W1.heap.size ≤ p.2.2.1 ∧ W1.heap.size ≤ p.2.2.2) ∧ w'.heap[p.2.1]? = some (.cells #[.int .i64 0, .int .i64 0] 27 (0, 0)) ∧ w'.heap[p.2.2.1]? = some (.cells #[.bool false, .slice none 0 0, .slice none 0 0] 195 (0, 0)) ∧ w'.heap[p.2.2.2]? = some (.cells #[.bool false, .slice none 0 0, .slice none 0 0, .slice none 0 0] 67 (0, 0)) ∧ Fr no W1 w') ?_ (fun CONT => ?_)
   · rintro ⟨⟨sr', ⟨la', ln', lc'⟩, ⟨sa', sn', sc'⟩, ⟨ka', kn', kc'⟩⟩, b1, b2, b3⟩ w2 ⟨cp, ⟨l1, l2, l3⟩, e1, e2, e3, g2⟩
     simp only at cp l1 l2 l3 e1 e2 e3 ⊢
     obtain rfl : sr' = true := cp.r
     have hlk := cp.lk
     simp only [Sv.mk.injEq] at hlk
     obtain ⟨k1, k2, k3⟩ := hlk
     have k1' := k1.symm
     have k2' := k2.symm
     have k3' := k3.symm
     subst k1' k2' k3'
     clear k1 k2 k3
     obtain rfl : ln' = x.lo.length := by obtain ⟨_, _, e⟩ := cp.lo.form; simp only [Value.slice.injEq] at e; exact e.2.1
     obtain rfl : sn' = x.st.length := by obtain ⟨_, _, e⟩ := cp.st.form; simp only [Value.slice.injEq] at e; exact e.2.1
     obtain ⟨w3, r3, h3, F3⟩ := store_mid w2 b1 0 27 27 #[.int .i64 0, .int .i64 0] #[.int .i64 ins.1, .int .i64 ins.2] e1 (Nat.le_refl 2) (by kernel_rfl) (by kernel_rfl)
     have cp3 := cp.kept1 e1 (by decide) l1 F3
     have n12 := ne_tag e1 e2 (by decide)
     have n13 := ne_tag e1 e3 (by decide)
     have n23 := ne_tag e2 e3 (by decide)
     have e2' := F3.heap e2 (fun e => n12 e.symm)
     have e3' := F3.heap e3 (fun e => n13 e.symm)
     have h3' : w3.heap[b1]? = some (.cells #[.int .i64 ins.1, .int .i64 ins.2] 27 (0, 0)) := h3
     refine late_all [26] (by kernel_rfl) (by simp) (fun jj hjj => ?_)
     obtain rfl := one_of hjj
     refine late_skip rfl rfl (ev_store 27 7 26 (ptr b1 0) (.agg #[.int .i64 ins.1, .int .i64 ins.2]) w3 rfl (by kernel_rfl) (by kernel_rfl) r3) ?_
     refine ⟨fun _ => cp3.fr, ?_⟩
     obtain ⟨w4, r4, h4', F4⟩ := store_mid w3 b2 0 195 195 #[.bool false, .slice none 0 0, .slice none 0 0] #[.bool r.nv, .slice ta r.tk.length tc, .slice pa r.pt.length pc] e2' (Nat.le_refl 3) (by kernel_rfl) (by kernel_rfl)
     have cp4 := cp3.kept1 e2' (by decide) l2 F4
     have h3'' := F4.heap h3' n12
     have e3'' := F4.heap e3' (fun e => n23 e.symm)
     have h4'' : w4.heap[b2]? = some (.cells #[.bool r.nv, .slice ta r.tk.length tc, .slice pa r.pt.length pc] 195 (0, 0)) := h4'
     refine late_all [27] (by kernel_rfl) (by simp) (fun jj hjj => ?_)
     obtain rfl := one_of hjj
     refine late_skip rfl rfl (ev_store 195 8 33 (ptr b2 0) (.agg #[.bool r.nv, .slice ta r.tk.length tc, .slice pa r.pt.length pc]) w4 rfl (by kernel_rfl) (by kernel_rfl) r4) ?_
     refine ⟨fun _ => cp4.fr, ?_⟩
     obtain ⟨w5, r5, h5', F5⟩ := store_mid w4 b3 0 67 67 #[.bool false, .slice none 0 0, .slice none 0 0, .slice none 0 0] #[.bool true, .slice la' x.lo.length lc', .slice sa' x.st.length sc', .slice ka kn kc] e3'' (Nat.le_refl 4) (by kernel_rfl) (by kernel_rfl)
     have cp5 := cp4.kept1 e3'' (by decide) l3 F5
     have E1 := F5.heap h3'' n13
     have E2 := F5.heap h4'' n23
     have E3 : w5.heap[b3]? = some (.cells #[.bool true, .slice la' x.lo.length lc', .slice sa' x.st.length sc', .slice ka kn kc] 67 (0, 0)) := h5'
     refine late_all [28] (by kernel_rfl) (by simp) (fun jj hjj => ?_)
     obtain rfl := one_of hjj
     refine late_skip rfl rfl (ev_store 67 9 41 (ptr b3 0) (.agg #[.bool true, .slice la' x.lo.length lc', .slice sa' x.st.length sc', .slice ka kn kc]) w5 rfl (by kernel_rfl) (by kernel_rfl) r5) ?_
     refine ⟨(fun h => Bool.noConfusion (show true = false from h)), ?_⟩
     refine late_done (by kernel_rfl) ?_
     have HB : Hid (w5.heap[b1]? = some (.cells #[.int .i64 ins.1, .int .i64 ins.2] 27 (0, 0)) ∧ w5.heap[b2]? = some (.cells #[.bool r.nv, .slice ta r.tk.length tc, .slice pa r.pt.length pc] 195 (0, 0)) ∧ w5.heap[b3]? = some (.cells #[.bool true, .slice la' x.lo.length lc', .slice sa' x.st.length sc', .slice ka kn kc] 67 (0, 0)) ∧ Copied W1 w5 ⟨true, ⟨la, x.lo.length, lc⟩, ⟨sa, x.st.length, sc⟩, ⟨ka, kn, kc⟩⟩ ⟨true, ⟨la', x.lo.length, lc'⟩, ⟨sa', x.st.length, sc'⟩, ⟨ka, kn, kc⟩⟩ x.lo x.st ∧ (W1.heap.size ≤ b1 ∧ W1.heap.size ≤ b2 ∧ W1.heap.size ≤ b3)) := ⟨E1, E2, E3, cp5, l1, l2, l3⟩
     clear cp cp3 cp4 cp5 e1 e2 e3 e2' e3' h3 h3' h3'' h4' h4'' e3'' h5' F3 F4 F5 r3 r4 r5 n12 n13 n23 E1 E2 E3 g2 HL HCP HIX HS0
     rename_i ha _ _
     refine ha _ _ ?_
     refine wp_eq (a' := { tmps := #[.pointer (some ⟨f, 0, none⟩), .int .i64 (i : Int), undef, undef, .pointer (some ⟨w.heap.size, 0, none⟩), .int .i64 0, .int .i64 0, .pointer (some ⟨b1, 0, none⟩), .pointer (some ⟨b2, 0, none⟩), .pointer (some ⟨b3, 0, none⟩), undef, undef, .pointer (some ⟨f, 0, none⟩), .int .i64 (i : Int), .int .i64 0, .int .i64 0, .bool false, undef, undef, .pointer (some ⟨f, 0, none⟩), .pointer (some ⟨f, 0, none⟩), .pointer (some ⟨f, 1, none⟩), .pointer (some ⟨f, 7, none⟩), .slice (some ⟨cb, co, none⟩) n cc, .int .i64 (i : Int), .pointer (some ⟨cb, co + i * 2, none⟩), .agg #[.int .i64 ins.1, .int .i64 ins.2], .pointer (some ⟨f, 0, none⟩), .pointer (some ⟨f, 0, none⟩), .pointer (some ⟨f, 10, none⟩), .slice (some ⟨R, 0, none⟩) n n, .int .i64 (i : Int), .pointer (some ⟨R, i * 3, none⟩), .agg #[.bool r.nv, .slice ta r.tk.length tc, .slice pa r.pt.length pc], .pointer (some ⟨f, 0, none⟩), .pointer (some ⟨f, 0, none⟩), .pointer (some ⟨f, 11, none⟩), .slice (some ⟨S, 0, none⟩) n n, .int .i64 (i : Int), .pointer (some ⟨S, i * 4, none⟩), .agg #[.bool true, .slice la x.lo.length lc, .slice sa x.st.length sc, .slice ka kn kc], .agg #[.bool true, .slice la' x.lo.length lc', .slice sa' x.st.length sc', .slice ka kn kc], undef, undef, undef, undef, undef, undef, undef, undef, undef, undef, undef, undef, undef, undef, undef, undef, undef, undef, undef, undef, undef, undef, undef, undef, undef, undef, undef, undef, undef, undef, undef, undef, undef, undef, undef, undef, undef, undef, undef, undef, undef, undef, undef, undef, undef, undef, undef, undef, undef, undef, undef, undef, undef], defers := [] }) (by kernel_rfl) ?_
     clear ha
     obtain ⟨i0, i1⟩ := bx2 HB.out.1
     obtain ⟨u0, u1, u2⟩ := bx3 HB.out.2.1
     obtain ⟨y0, y1, y2, y3⟩ := box4 HB.out.2.2.1
     have hle : ¬ x.st.length < r.tk.length := HLE.out
     obtain ⟨lf, hlf⟩ : ∃ lf : Nat, x.st.length = lf + r.tk.length := ⟨x.st.length - r.tk.length, by omega⟩
     have hsub : (x.st.length : Int) - (r.tk.length : Int) = (lf : Int) := by omega
     have hlf0 : (0 : Int) ≤ (lf : Int) := by omega
     have hlf1 : (lf : Int) ≤ (x.st.length : Int) := by omega
     have HLF : Hid (x.st.length = lf + r.tk.length) := hlf
     have hcap : (lf : Int) ≤ (sc' : Int) := by
      obtain ⟨_, _, e, hq, _⟩ := HB.out.2.2.2.1.st.sl okTy
      simp only [Value.slice.injEq] at e
      obtain ⟨-, -, rfl⟩ := e
      omega
     clear hlf hle
     by_cases h4n : ins.1 = 4
     · obtain ⟨ha1, ha2⟩ := h4 h4n
       obtain ⟨m, hm⟩ : ∃ m : Nat, ins.2 = (m : Int) := ⟨ins.2.toNat, by omega⟩
       obtain ⟨t, ht⟩ : ∃ t, x.lo[m]? = some t := ⟨_, List.getElem?_eq_getElem (by omega)⟩
       obtain ⟨lb, lo', lcap, e, q0, q1⟩ := ty_at (HB.out.2.2.2.1.lo.sl okTy) ht
       simp only [Value.slice.injEq] at e
       obtain ⟨rfl, -, rfl⟩ := e
       have hmi : (m : Int) < (x.lo.length : Int) := by omega
       have hgt : x.lo.getD ins.2.toNat top = t := by rw [hm, Int.toNat_natCast, List.getD_eq_getElem?_getD, ht]; rfl
       have GA : Fr no w5 (w5.alloc (.cells #[.int .i64 t.k, .string t.c] 44)) := (Fr.refl no w5).alloc _ _
       have HOW : Hid (OwnG elTy (w5.alloc (.cells #[.int .i64 t.k, .string t.c] 44)) (.slice sa' lf sc') (x.st.take lf)) := (HB.out.2.2.2.1.st.take okTy lf (by have := HLF.out; omega)).keep GA
       have HSR : Hid (Src Tryz.prog elTy.n elTy.t (.slice (some ⟨w5.heap.size, 0, none⟩) 1 1) ([t] : List Ty).length (cg elTy [t]) (w5.alloc (.cells #[.int .i64 t.k, .string t.c] 44))) := srcG_one okTy w5 t
       have H5 : Hid ((w5.alloc (.cells #[.int .i64 t.k, .string t.c] 44)).heap[b3]? = some (.cells #[.bool true, .slice (some ⟨lb, lo', none⟩) x.lo.length lc', .slice sa' x.st.length sc', .slice ka kn kc] 67 (0, 0)) ∧ (w5.alloc (.cells #[.int .i64 t.k, .string t.c] 44)).heap[w.heap.size]? = some (.cells #[.bool false, .slice none 0 0, .slice none 0 0, .slice none 0 0] 67 (0, 0)) ∧ OwnG elTy (w5.alloc (.cells #[.int .i64 t.k, .string t.c] 44)) (.slice (some ⟨lb, lo', none⟩) x.lo.length lc') x.lo ∧ (∀ k, (Value.slice (some ⟨lb, lo', none⟩) x.lo.length lc').ownBlock = some k → (Value.slice sa' x.st.length sc').ownBlock ≠ some k) ∧ (∀ k, (Value.slice sa' x.st.length sc').ownBlock = some k → W1.heap.size ≤ k) ∧ Fr no W1 (w5.alloc (.cells #[.int .i64 t.k, .string t.c] 44))) :=
        ⟨GA.heap HB.out.2.2.1 (fun f => f), GA.heap (HB.out.2.2.2.1.fr.heap HE1.out.1 (fun f => f)) (fun f => f), HB.out.2.2.2.1.lo.keep GA, HB.out.2.2.2.1.ne, HB.out.2.2.2.1.nst, HB.out.2.2.2.1.fr.new GA (fun _ _ f => f)⟩
       have hlt4 : (ins.1 == 4) = true := by simpa using h4n
       have h54 : ¬ ins.1 = 5 := by omega
       rw [hm] at i1
       have y2a := (box4 (GA.heap HB.out.2.2.1 (fun f => f))).2.2.1
       clear GA
       have STEP : Hid (∀ v' w6, OwnG elTy w6 v' (x.st.take lf ++ [t]) → Sp no (.slice sa' lf sc') (w5.alloc (.cells #[.int .i64 t.k, .string t.c] 44)) v' w6 → w6.heap[b3]? = some (.cells #[.bool true, .slice (some ⟨lb, lo', none⟩) x.lo.length lc', .slice sa' x.st.length sc', .slice ka kn kc] 67 (0, 0)) ∧ w6.heap[w.heap.size]? = some (.cells #[.bool false, .slice none 0 0, .slice none 0 0, .slice none 0 0] 67 (0, 0)) ∧ OwnG elTy w6 (.slice (some ⟨lb, lo', none⟩) x.lo.length lc') x.lo ∧ Fr no W1 w6 ∧ w.heap.size < W1.heap.size ∧ ∀ k, v'.ownBlock = some k → W1.heap.size ≤ k) := fun v' w6 o6 s6 => by
        obtain ⟨EB, EZ, OL, NE, NS, FF⟩ := H5.out
        have hlz : w.heap.size < W1.heap.size := lt_of_heap HE1.out.1
        have nt : ∀ {b : Nat} {cur : Array Value} {ty : TypeId}, (w5.alloc (.cells #[.int .i64 t.k, .string t.c] 44)).heap[b]? = some (.cells cur ty (0, 0)) → ty ≠ 44 → ¬ (no b ∨ (Value.slice sa' lf sc').ownBlock = some b) := fun {b cur ty} hb hty e => by
         rcases e with e | e
         · exact e
         · obtain ⟨cu, hc⟩ := HOW.out.tag e
           rw [hb] at hc
           simp only [Option.some.injEq, Obj.cells.injEq] at hc
           exact hty hc.2.1
        refine ⟨s6.1.heap EB (nt EB (by decide)), s6.1.heap EZ (nt EZ (by decide)), OL.kept s6.1 (fun k hk e => ?_), FF.new s6.1 (fun k hk e => ?_), hlz, fun k hk => ?_⟩
        · rcases e with e | e
          · exact e
          · exact NE k hk (by cases sa' with | none => exact e | some a => exact e)
        · rcases e with e | e
          · exact e
          · have := NS k (by cases sa' with | none => exact e | some a => exact e)
            omega
        · by_cases hl : k < (w5.alloc (.cells #[.int .i64 t.k, .string t.c] 44)).heap.size
          · have e := s6.2 k hl hk
            exact NS k (by cases sa' with | none => exact e | some a => exact e)
          · have := FF.size
            omega
       go_wp2_with (first | (at_builtin; refine wpList_apd0 okTy _ rfl rfl _ _ rfl (.slice sa' lf sc') (x.st.take lf) rfl HOW.out _ rfl [t] HSR.out (by simp only [List.length_take, List.length_singleton]; omega) ?_; intro v' w6 o6 s6; obtain ⟨E6, Z6, OL6, F6, hlz, NV6⟩ := STEP.out v' w6 o6 s6; obtain ⟨oo6, cc6, rfl⟩ := o6.form; generalize hnl : (x.st.take lf ++ [t]).length = nl at *; have z2 := (box4 E6).2.2.1; have fz2 := frozen_at (o := 2) E6; have A6 : (w6.setCell ⟨b3, 2, none⟩ (.slice oo6 nl cc6)).heap[b3]? = some (.cells #[.bool true, .slice (some ⟨lb, lo', none⟩) x.lo.length lc', .slice oo6 nl cc6, .slice ka kn kc] 67 (0, 0)) := set_at E6; have F7 : Fr (fun k => k = b3) w6 (w6.setCell ⟨b3, 2, none⟩ (.slice oo6 nl cc6)) := (Fr.refl (fun k => k = b3) w6).setCell (p := ⟨b3, 2, none⟩) (fun _ => rfl) _; have hb3 := HB.out.2.2.2.2.2.2; have Z7 := F7.heap Z6 (by omega); have nt3 := fun k (hk : (Value.slice oo6 nl cc6).ownBlock = some k) (e : k = b3) => (by obtain ⟨cu, hc⟩ := o6.tag hk; rw [e, E6] at hc; simp only [Option.some.injEq, Obj.cells.injEq] at hc; exact absurd hc.2.1 (by decide) : False); have nt4 := fun k (hk : (Value.slice (some ⟨lb, lo', none⟩) x.lo.length lc').ownBlock = some k) (e : k = b3) => (by obtain ⟨cu, hc⟩ := OL6.tag hk; rw [e, E6] at hc; simp only [Option.some.injEq, Obj.cells.injEq] at hc; exact absurd hc.2.1 (by decide) : False); have HO6 : Hid (OwnG elTy (w6.setCell ⟨b3, 2, none⟩ (.slice oo6 nl cc6)) (.slice oo6 nl cc6) (x.st.take lf ++ [t]) ∧ OwnG elTy (w6.setCell ⟨b3, 2, none⟩ (.slice oo6 nl cc6)) (.slice (some ⟨lb, lo', none⟩) x.lo.length lc') x.lo ∧ Fr no W1 (w6.setCell ⟨b3, 2, none⟩ (.slice oo6 nl cc6)) ∧ ∀ k, (Value.slice oo6 nl cc6).ownBlock = some k → W1.heap.size ≤ k) := ⟨o6.kept F7 nt3, OL6.kept F7 nt4, F6.new F7 (fun k hk e => by omega), NV6⟩; generalize hW7 : w6.setCell ⟨b3, 2, none⟩ (.slice oo6 nl cc6) = W7 at *; obtain ⟨t0, t1, t2, t3⟩ := box4 A6; obtain ⟨v0, v1, v2, v3⟩ := box4 Z7; have fzz := fun o => frozen_at (o := o) Z7; have HC : Hid _ := And.intro (chain4 Z7 (.bool true) (.slice (some ⟨lb, lo', none⟩) x.lo.length lc') (.slice oo6 nl cc6) (.slice ka kn kc)) (And.intro (frc4 W7 w.heap.size (.bool true) (.slice (some ⟨lb, lo', none⟩) x.lo.length lc') (.slice oo6 nl cc6) (.slice ka kn kc)) Z7); clear o6 s6 E6 Z6 OL6 F6 A6 F7 Z7 nt3 nt4 hb3 hlz NV6) | go_in)
       refine bodyPost_ret (results_109 _ w.heap.size _ _ _ _ _ HC.out.1 _ rfl rfl) rfl ?_
       obtain ⟨ost, olo, ff, nv⟩ := HO6.out
       have nt8 : ∀ {v : Value} {l : List Ty}, OwnG elTy W7 v l → ∀ k, v.ownBlock = some k → ¬ k = w.heap.size := fun o k hk e => by
        obtain ⟨cu, hc⟩ := o.tag hk
        rw [e, HC.out.2.2] at hc
        simp only [Option.some.injEq, Obj.cells.injEq] at hc
        exact absurd hc.2.1 (by decide)
       have elo : (runS r ins x).lo = x.lo := by unfold runS; simp only; rw [if_neg h54]
       have est : (runS r ins x).st = x.st.take lf ++ [t] := by unfold runS; simp only; rw [if_pos h4n, hgt, show x.st.length - r.tk.length = lf by have := HLF.out; omega]
       refine ⟨⟨true, ⟨some ⟨lb, lo', none⟩, x.lo.length, lc'⟩, ⟨oo6, nl, cc6⟩, ⟨ka, kn, kc⟩⟩, rfl, fun _ => ⟨rfl, ?_, ?_, fun k hk => Nat.le_trans HE1.out.2.size (HB.out.2.2.2.1.nlo k hk), fun k hk => Nat.le_trans HE1.out.2.size (nv k hk)⟩, (HE1.out.2.new ff (fun _ _ f => f)).new HC.out.2.1 (fun k hk e => by omega)⟩
       · rw [elo]
         exact olo.kept HC.out.2.1 (nt8 olo)
       · rw [est]
         exact ost.kept HC.out.2.1 (nt8 ost)
     by_cases h5n : ins.1 = 5
     · obtain ⟨ha1, ha2, ha3⟩ := h5 h5n
       obtain ⟨m, hm⟩ : ∃ m : Nat, ins.2 = (m : Int) := ⟨ins.2.toNat, by omega⟩
       obtain ⟨y, hy⟩ : ∃ y, x.lo[m]? = some y := ⟨_, List.getElem?_eq_getElem (by omega)⟩
       obtain ⟨t, ht⟩ : ∃ t, x.st[lf]? = some t := ⟨_, List.getElem?_eq_getElem (by have := HLF.out; omega)⟩
       have hlo0 : ∃ lb, la' = some ⟨lb, 0, none⟩ := by
        rcases HB.out.2.2.2.1.lo.1.2 with ⟨e, h0⟩ | ⟨g, cap', cur, e, _⟩
        · simp only [Value.slice.injEq] at e
          omega
        · simp only [Value.slice.injEq] at e
          exact ⟨g, e.1⟩
       obtain ⟨lb, rfl⟩ := hlo0
       obtain ⟨lb', lo2, lcap, e, q0, q1⟩ := ty_at (HB.out.2.2.2.1.lo.sl okTy) hy
       simp only [Value.slice.injEq, Option.some.injEq, Addr.mk.injEq, and_true] at e
       obtain ⟨⟨rfl, rfl⟩, -, rfl⟩ := e
       obtain ⟨sb, so, scap, e, p0, p1⟩ := ty_at (HB.out.2.2.2.1.st.sl okTy) ht
       simp only [Value.slice.injEq] at e
       obtain ⟨rfl, -, rfl⟩ := e
       simp only [Nat.zero_add] at q0 q1
       have hmi : (m : Int) < (x.lo.length : Int) := by omega
       have hli : (lf : Int) < (x.st.length : Int) := by have := HLF.out; omega
       have hgt : x.st.getD (x.st.length - r.tk.length) top = t := by rw [show x.st.length - r.tk.length = lf by have := HLF.out; omega, List.getD_eq_getElem?_getD, ht]; rfl
       have o1 := HB.out.2.2.2.1.lo.cell1 okTy (k := m) (j := 0) hy ⟨t.k, y.c⟩ (.int .i64 t.k) (by decide) rfl
       have hsl : m < x.lo.length := by omega
       have o2 := o1.cell1 okTy (k := m) (j := 1) (y := ⟨t.k, y.c⟩) (by rw [List.getElem?_set_self hsl]) t (.string t.c) (by decide) rfl
       rw [List.set_set] at o2
       have e2n : elTy.n = 2 := rfl
       rw [e2n, Nat.add_zero] at o2
       have FA : Fr (fun k => k = lb) w5 ((w5.setCell ⟨lb, m * 2, none⟩ (.int .i64 t.k)).setCell ⟨lb, m * 2 + 1, none⟩ (.string t.c)).drew := (((Fr.refl (fun k => k = lb) w5).setCell (p := ⟨lb, m * 2, none⟩) (fun _ => rfl) _).setCell (p := ⟨lb, m * 2 + 1, none⟩) (fun _ => rfl) _).drew
       obtain ⟨lcur, hlcur⟩ := HB.out.2.2.2.1.lo.tag (k := lb) rfl
       have ntb := ne_tag HB.out.2.2.1 hlcur (by decide)
       have EZ0 := HB.out.2.2.2.1.fr.heap HE1.out.1 (fun f => f)
       have ntz := ne_tag EZ0 hlcur (by decide)
       have nlo := HB.out.2.2.2.1.nlo lb rfl
       have HOW : Hid (OwnG elTy ((w5.setCell ⟨lb, m * 2, none⟩ (.int .i64 t.k)).setCell ⟨lb, m * 2 + 1, none⟩ (.string t.c)).drew (.slice (some ⟨sb, so, none⟩) lf sc') (x.st.take lf)) := (HB.out.2.2.2.1.st.take okTy lf (by have := HLF.out; omega)).kept FA (fun k hk e => HB.out.2.2.2.1.ne lb rfl (by rw [← e]; exact hk))
       have HSR : Hid (Src Tryz.prog elTy.n elTy.t (.slice pa r.pt.length pc) r.pt.length (cg elTy r.pt) ((w5.setCell ⟨lb, m * 2, none⟩ (.int .i64 t.k)).setCell ⟨lb, m * 2 + 1, none⟩ (.string t.c)).drew) := (HK.out ((w5.setCell ⟨lb, m * 2, none⟩ (.int .i64 t.k)).setCell ⟨lb, m * 2 + 1, none⟩ (.string t.c)).drew (HE1.out.2.new (HB.out.2.2.2.1.fr.new FA (fun k hk e => by omega)) (fun _ _ f => f))).1
       have H5 : Hid (((w5.setCell ⟨lb, m * 2, none⟩ (.int .i64 t.k)).setCell ⟨lb, m * 2 + 1, none⟩ (.string t.c)).drew.heap[b3]? = some (.cells #[.bool true, .slice (some ⟨lb, 0, none⟩) x.lo.length lc', .slice (some ⟨sb, so, none⟩) x.st.length sc', .slice ka kn kc] 67 (0, 0)) ∧ ((w5.setCell ⟨lb, m * 2, none⟩ (.int .i64 t.k)).setCell ⟨lb, m * 2 + 1, none⟩ (.string t.c)).drew.heap[w.heap.size]? = some (.cells #[.bool false, .slice none 0 0, .slice none 0 0, .slice none 0 0] 67 (0, 0)) ∧ OwnG elTy ((w5.setCell ⟨lb, m * 2, none⟩ (.int .i64 t.k)).setCell ⟨lb, m * 2 + 1, none⟩ (.string t.c)).drew (.slice (some ⟨lb, 0, none⟩) x.lo.length lc') (x.lo.set m t) ∧ (∀ k, (Value.slice (some ⟨lb, 0, none⟩) x.lo.length lc').ownBlock = some k → (Value.slice (some ⟨sb, so, none⟩) x.st.length sc').ownBlock ≠ some k) ∧ (∀ k, (Value.slice (some ⟨sb, so, none⟩) x.st.length sc').ownBlock = some k → W1.heap.size ≤ k) ∧ Fr no W1 ((w5.setCell ⟨lb, m * 2, none⟩ (.int .i64 t.k)).setCell ⟨lb, m * 2 + 1, none⟩ (.string t.c)).drew) :=
        ⟨FA.heap HB.out.2.2.1 ntb, FA.heap EZ0 ntz, o2.keep ((Fr.refl no _).drew), HB.out.2.2.2.1.ne, HB.out.2.2.2.1.nst, HB.out.2.2.2.1.fr.new FA (fun k hk e => by omega)⟩
       have hlt5 : (ins.1 == 5) = true := by simpa using h5n
       have h54 : ¬ ins.1 = 4 := by omega
       rw [hm] at i1
       have y2a := (box4 (FA.heap HB.out.2.2.1 ntb)).2.2.1
       have fq0 := frozen_at (o := m * 2) hlcur
       have fq1 := frozen_at (o := m * 2 + 1) hlcur
       have u1a := (bx3 (FA.heap HB.out.2.1 (ne_tag HB.out.2.1 hlcur (by decide)))).2.2
       clear FA ntb ntz EZ0 nlo o1 o2 hlcur e2n hsl ha3 h5 h4
       go_wp2_with fail
       go_region
       generalize ((w5.setCell ⟨lb, m * 2, none⟩ (.int .i64 t.k)).setCell ⟨lb, m * 2 + 1, none⟩ (.string t.c)).drew = W5 at *
       have STEP : Hid (∀ v' w6, OwnG elTy w6 v' (x.st.take lf ++ r.pt) → Sp no (.slice (some ⟨sb, so, none⟩) lf sc') W5 v' w6 → w6.heap[b3]? = some (.cells #[.bool true, .slice (some ⟨lb, 0, none⟩) x.lo.length lc', .slice (some ⟨sb, so, none⟩) x.st.length sc', .slice ka kn kc] 67 (0, 0)) ∧ w6.heap[w.heap.size]? = some (.cells #[.bool false, .slice none 0 0, .slice none 0 0, .slice none 0 0] 67 (0, 0)) ∧ OwnG elTy w6 (.slice (some ⟨lb, 0, none⟩) x.lo.length lc') (x.lo.set m t) ∧ Fr no W1 w6 ∧ w.heap.size < W1.heap.size ∧ ∀ k, v'.ownBlock = some k → W1.heap.size ≤ k) := fun v' w6 o6 s6 => by
        obtain ⟨EB, EZ, OL, NE, NS, FF⟩ := H5.out
        have hlz : w.heap.size < W1.heap.size := lt_of_heap HE1.out.1
        have nt : ∀ {b : Nat} {cur : Array Value} {ty : TypeId}, W5.heap[b]? = some (.cells cur ty (0, 0)) → ty ≠ 44 → ¬ (no b ∨ (Value.slice (some ⟨sb, so, none⟩) lf sc').ownBlock = some b) := fun {b cur ty} hb hty e => by
         rcases e with e | e
         · exact e
         · obtain ⟨cu, hc⟩ := HOW.out.tag e
           rw [hb] at hc
           simp only [Option.some.injEq, Obj.cells.injEq] at hc
           exact hty hc.2.1
        refine ⟨s6.1.heap EB (nt EB (by decide)), s6.1.heap EZ (nt EZ (by decide)), OL.kept s6.1 (fun k hk e => ?_), FF.new s6.1 (fun k hk e => ?_), hlz, fun k hk => ?_⟩
        · rcases e with e | e
          · exact e
          · exact NE k hk (e)
        · rcases e with e | e
          · exact e
          · have := NS k (e)
            omega
        · by_cases hl : k < W5.heap.size
          · have e := s6.2 k hl hk
            exact NS k (e)
          · have := FF.size
            omega
       go_wp2_with (first | (at_builtin; refine wpList_apd0 okTy _ rfl rfl _ _ rfl (.slice (some ⟨sb, so, none⟩) lf sc') (x.st.take lf) rfl HOW.out _ rfl r.pt HSR.out (by simp only [List.length_take]; omega) ?_; intro v' w6 o6 s6; obtain ⟨E6, Z6, OL6, F6, hlz, NV6⟩ := STEP.out v' w6 o6 s6; obtain ⟨oo6, cc6, rfl⟩ := o6.form; generalize hnl : (x.st.take lf ++ r.pt).length = nl at *; have z2 := (box4 E6).2.2.1; have fz2 := frozen_at (o := 2) E6; have A6 : (w6.setCell ⟨b3, 2, none⟩ (.slice oo6 nl cc6)).heap[b3]? = some (.cells #[.bool true, .slice (some ⟨lb, 0, none⟩) x.lo.length lc', .slice oo6 nl cc6, .slice ka kn kc] 67 (0, 0)) := set_at E6; have F7 : Fr (fun k => k = b3) w6 (w6.setCell ⟨b3, 2, none⟩ (.slice oo6 nl cc6)) := (Fr.refl (fun k => k = b3) w6).setCell (p := ⟨b3, 2, none⟩) (fun _ => rfl) _; have hb3 := HB.out.2.2.2.2.2.2; have Z7 := F7.heap Z6 (by omega); have nt3 := fun k (hk : (Value.slice oo6 nl cc6).ownBlock = some k) (e : k = b3) => (by obtain ⟨cu, hc⟩ := o6.tag hk; rw [e, E6] at hc; simp only [Option.some.injEq, Obj.cells.injEq] at hc; exact absurd hc.2.1 (by decide) : False); have nt4 := fun k (hk : (Value.slice (some ⟨lb, 0, none⟩) x.lo.length lc').ownBlock = some k) (e : k = b3) => (by obtain ⟨cu, hc⟩ := OL6.tag hk; rw [e, E6] at hc; simp only [Option.some.injEq, Obj.cells.injEq] at hc; exact absurd hc.2.1 (by decide) : False); have HO6 : Hid (OwnG elTy (w6.setCell ⟨b3, 2, none⟩ (.slice oo6 nl cc6)) (.slice oo6 nl cc6) (x.st.take lf ++ r.pt) ∧ OwnG elTy (w6.setCell ⟨b3, 2, none⟩ (.slice oo6 nl cc6)) (.slice (some ⟨lb, 0, none⟩) x.lo.length lc') (x.lo.set m t) ∧ Fr no W1 (w6.setCell ⟨b3, 2, none⟩ (.slice oo6 nl cc6)) ∧ ∀ k, (Value.slice oo6 nl cc6).ownBlock = some k → W1.heap.size ≤ k) := ⟨o6.kept F7 nt3, OL6.kept F7 nt4, F6.new F7 (fun k hk e => by omega), NV6⟩; generalize hW7 : w6.setCell ⟨b3, 2, none⟩ (.slice oo6 nl cc6) = W7 at *; obtain ⟨t0, t1, t2, t3⟩ := box4 A6; obtain ⟨v0, v1, v2, v3⟩ := box4 Z7; have fzz := fun o => frozen_at (o := o) Z7; have HC : Hid _ := And.intro (chain4 Z7 (.bool true) (.slice (some ⟨lb, 0, none⟩) x.lo.length lc') (.slice oo6 nl cc6) (.slice ka kn kc)) (And.intro (frc4 W7 w.heap.size (.bool true) (.slice (some ⟨lb, 0, none⟩) x.lo.length lc') (.slice oo6 nl cc6) (.slice ka kn kc)) Z7); clear o6 s6 E6 Z6 OL6 F6 A6 F7 Z7 nt3 nt4 hb3 hlz NV6) | go_in)
       refine bodyPost_ret (results_109 _ w.heap.size _ _ _ _ _ HC.out.1 _ rfl rfl) rfl ?_
       obtain ⟨ost, olo, ff, nv⟩ := HO6.out
       have nt8 : ∀ {v : Value} {l : List Ty}, OwnG elTy W7 v l → ∀ k, v.ownBlock = some k → ¬ k = w.heap.size := fun o k hk e => by
        obtain ⟨cu, hc⟩ := o.tag hk
        rw [e, HC.out.2.2] at hc
        simp only [Option.some.injEq, Obj.cells.injEq] at hc
        exact absurd hc.2.1 (by decide)
       have elo : (runS r ins x).lo = (x.lo.set m t) := by unfold runS; simp only; rw [if_pos h5n, hgt, hm, Int.toNat_natCast]
       have est : (runS r ins x).st = x.st.take lf ++ r.pt := by unfold runS; simp only; rw [if_neg h54, show x.st.length - r.tk.length = lf by have := HLF.out; omega]
       refine ⟨⟨true, ⟨some ⟨lb, 0, none⟩, x.lo.length, lc'⟩, ⟨oo6, nl, cc6⟩, ⟨ka, kn, kc⟩⟩, rfl, fun _ => ⟨rfl, ?_, ?_, fun k hk => Nat.le_trans HE1.out.2.size (HB.out.2.2.2.1.nlo k hk), fun k hk => Nat.le_trans HE1.out.2.size (nv k hk)⟩, (HE1.out.2.new ff (fun _ _ f => f)).new HC.out.2.1 (fun k hk e => by omega)⟩
       · rw [elo]
         exact olo.kept HC.out.2.1 (nt8 olo)
       · rw [est]
         exact ost.kept HC.out.2.1 (nt8 ost)
     have HOW : Hid (OwnG elTy w5 (.slice sa' lf sc') (x.st.take lf)) := HB.out.2.2.2.1.st.take okTy lf (by have := HLF.out; omega)
     have HSR : Hid (Src Tryz.prog elTy.n elTy.t (.slice pa r.pt.length pc) r.pt.length (cg elTy r.pt) w5) := (HK.out w5 (HE1.out.2.new HB.out.2.2.2.1.fr (fun _ _ f => f))).1
     have H5 : Hid (w5.heap[b3]? = some (.cells #[.bool true, .slice la' x.lo.length lc', .slice sa' x.st.length sc', .slice ka kn kc] 67 (0, 0)) ∧ w5.heap[w.heap.size]? = some (.cells #[.bool false, .slice none 0 0, .slice none 0 0, .slice none 0 0] 67 (0, 0)) ∧ OwnG elTy w5 (.slice la' x.lo.length lc') x.lo ∧ (∀ k, (Value.slice la' x.lo.length lc').ownBlock = some k → (Value.slice sa' x.st.length sc').ownBlock ≠ some k) ∧ (∀ k, (Value.slice sa' x.st.length sc').ownBlock = some k → W1.heap.size ≤ k) ∧ Fr no W1 w5) :=
      ⟨HB.out.2.2.1, HB.out.2.2.2.1.fr.heap HE1.out.1 (fun f => f), HB.out.2.2.2.1.lo, HB.out.2.2.2.1.ne, HB.out.2.2.2.1.nst, HB.out.2.2.2.1.fr⟩
     have hlt4 : (ins.1 == 4) = false := by simpa using h4n
     have hlt5 : (ins.1 == 5) = false := by simpa using h5n
     have hlt7 : (ins.1 == 7) = false := by simpa using h7
     have STEP : Hid (∀ v' w6, OwnG elTy w6 v' (x.st.take lf ++ r.pt) → Sp no (.slice sa' lf sc') w5 v' w6 → w6.heap[b3]? = some (.cells #[.bool true, .slice la' x.lo.length lc', .slice sa' x.st.length sc', .slice ka kn kc] 67 (0, 0)) ∧ w6.heap[w.heap.size]? = some (.cells #[.bool false, .slice none 0 0, .slice none 0 0, .slice none 0 0] 67 (0, 0)) ∧ OwnG elTy w6 (.slice la' x.lo.length lc') x.lo ∧ Fr no W1 w6 ∧ w.heap.size < W1.heap.size ∧ ∀ k, v'.ownBlock = some k → W1.heap.size ≤ k) := fun v' w6 o6 s6 => by
      obtain ⟨EB, EZ, OL, NE, NS, FF⟩ := H5.out
      have hlz : w.heap.size < W1.heap.size := lt_of_heap HE1.out.1
      have nt : ∀ {b : Nat} {cur : Array Value} {ty : TypeId}, w5.heap[b]? = some (.cells cur ty (0, 0)) → ty ≠ 44 → ¬ (no b ∨ (Value.slice sa' lf sc').ownBlock = some b) := fun {b cur ty} hb hty e => by
       rcases e with e | e
       · exact e
       · obtain ⟨cu, hc⟩ := HOW.out.tag e
         rw [hb] at hc
         simp only [Option.some.injEq, Obj.cells.injEq] at hc
         exact hty hc.2.1
      refine ⟨s6.1.heap EB (nt EB (by decide)), s6.1.heap EZ (nt EZ (by decide)), OL.kept s6.1 (fun k hk e => ?_), FF.new s6.1 (fun k hk e => ?_), hlz, fun k hk => ?_⟩
      · rcases e with e | e
        · exact e
        · exact NE k hk (by cases sa' with | none => exact e | some a => exact e)
      · rcases e with e | e
        · exact e
        · have := NS k (by cases sa' with | none => exact e | some a => exact e)
          omega
      · by_cases hl : k < w5.heap.size
        · have e := s6.2 k hl hk
          exact NS k (by cases sa' with | none => exact e | some a => exact e)
        · have := FF.size
          omega
     go_wp2_with (first | (at_builtin; refine wpList_apd0 okTy _ rfl rfl _ _ rfl (.slice sa' lf sc') (x.st.take lf) rfl HOW.out _ rfl r.pt HSR.out (by simp only [List.length_take]; omega) ?_; intro v' w6 o6 s6; obtain ⟨E6, Z6, OL6, F6, hlz, NV6⟩ := STEP.out v' w6 o6 s6; obtain ⟨oo6, cc6, rfl⟩ := o6.form; generalize hnl : (x.st.take lf ++ r.pt).length = nl at *; have z2 := (box4 E6).2.2.1; have fz2 := frozen_at (o := 2) E6; have A6 : (w6.setCell ⟨b3, 2, none⟩ (.slice oo6 nl cc6)).heap[b3]? = some (.cells #[.bool true, .slice la' x.lo.length lc', .slice oo6 nl cc6, .slice ka kn kc] 67 (0, 0)) := set_at E6; have F7 : Fr (fun k => k = b3) w6 (w6.setCell ⟨b3, 2, none⟩ (.slice oo6 nl cc6)) := (Fr.refl (fun k => k = b3) w6).setCell (p := ⟨b3, 2, none⟩) (fun _ => rfl) _; have hb3 := HB.out.2.2.2.2.2.2; have Z7 := F7.heap Z6 (by omega); have nt3 := fun k (hk : (Value.slice oo6 nl cc6).ownBlock = some k) (e : k = b3) => (by obtain ⟨cu, hc⟩ := o6.tag hk; rw [e, E6] at hc; simp only [Option.some.injEq, Obj.cells.injEq] at hc; exact absurd hc.2.1 (by decide) : False); have nt4 := fun k (hk : (Value.slice la' x.lo.length lc').ownBlock = some k) (e : k = b3) => (by obtain ⟨cu, hc⟩ := OL6.tag hk; rw [e, E6] at hc; simp only [Option.some.injEq, Obj.cells.injEq] at hc; exact absurd hc.2.1 (by decide) : False); have HO6 : Hid (OwnG elTy (w6.setCell ⟨b3, 2, none⟩ (.slice oo6 nl cc6)) (.slice oo6 nl cc6) (x.st.take lf ++ r.pt) ∧ OwnG elTy (w6.setCell ⟨b3, 2, none⟩ (.slice oo6 nl cc6)) (.slice la' x.lo.length lc') x.lo ∧ Fr no W1 (w6.setCell ⟨b3, 2, none⟩ (.slice oo6 nl cc6)) ∧ ∀ k, (Value.slice oo6 nl cc6).ownBlock = some k → W1.heap.size ≤ k) := ⟨o6.kept F7 nt3, OL6.kept F7 nt4, F6.new F7 (fun k hk e => by omega), NV6⟩; generalize hW7 : w6.setCell ⟨b3, 2, none⟩ (.slice oo6 nl cc6) = W7 at *; obtain ⟨t0, t1, t2, t3⟩ := box4 A6; obtain ⟨v0, v1, v2, v3⟩ := box4 Z7; have fzz := fun o => frozen_at (o := o) Z7; have HC : Hid _ := And.intro (chain4 Z7 (.bool true) (.slice la' x.lo.length lc') (.slice oo6 nl cc6) (.slice ka kn kc)) (And.intro (frc4 W7 w.heap.size (.bool true) (.slice la' x.lo.length lc') (.slice oo6 nl cc6) (.slice ka kn kc)) Z7); clear o6 s6 E6 Z6 OL6 F6 A6 F7 Z7 nt3 nt4 hb3 hlz NV6) | go_in)
     refine bodyPost_ret (results_109 _ w.heap.size _ _ _ _ _ HC.out.1 _ rfl rfl) rfl ?_
     obtain ⟨ost, olo, ff, nv⟩ := HO6.out
     have nt8 : ∀ {v : Value} {l : List Ty}, OwnG elTy W7 v l → ∀ k, v.ownBlock = some k → ¬ k = w.heap.size := fun o k hk e => by
      obtain ⟨cu, hc⟩ := o.tag hk
      rw [e, HC.out.2.2] at hc
      simp only [Option.some.injEq, Obj.cells.injEq] at hc
      exact absurd hc.2.1 (by decide)
     have elo : (runS r ins x).lo = x.lo := by unfold runS; simp only; rw [if_neg h5n]
     have est : (runS r ins x).st = x.st.take lf ++ r.pt := by unfold runS; simp only; rw [if_neg h4n, show x.st.length - r.tk.length = lf by have := HLF.out; omega]
     refine ⟨⟨true, ⟨la', x.lo.length, lc'⟩, ⟨oo6, nl, cc6⟩, ⟨ka, kn, kc⟩⟩, rfl, fun _ => ⟨rfl, ?_, ?_, fun k hk => Nat.le_trans HE1.out.2.size (HB.out.2.2.2.1.nlo k hk), fun k hk => Nat.le_trans HE1.out.2.size (nv k hk)⟩, (HE1.out.2.new ff (fun _ _ f => f)).new HC.out.2.1 (fun k hk e => by omega)⟩
     · rw [elo]
       exact olo.kept HC.out.2.1 (nt8 olo)
     · rw [est]
       exact ost.kept HC.out.2.1 (nt8 ost)
   · refine late_all [22, 23, 24, 25] (by kernel_rfl) (by simp) (fun jj hjj => ?_)
     simp only [List.mem_cons, List.not_mem_nil, or_false] at hjj
     rcases hjj with rfl | rfl | rfl | rfl
     · refine late_call (f := 141) rfl rfl (by kernel_rfl) (R := fun v w' => ∃ s', v = saV s' ∧ Copied W1.drew w' ⟨true, ⟨la, x.lo.length, lc⟩, ⟨sa, x.st.length, sc⟩, ⟨ka, kn, kc⟩⟩ s' x.lo x.st) ((HCP.out W1.drew HS0.out).mono (fun e w' ⟨s', h1, h2⟩ => ⟨_, h1, s', rfl, h2⟩)) (fun v w1 hv => ?_)
       obtain ⟨s1, rfl, cp1⟩ := hv
       have g1 : Fr no W1 w1 := HS0.out.new cp1.fr (fun _ _ f => f)
       refine ⟨fun _ => g1, ?_⟩
       unfold saV
       have c1 := cp1.base HS0.out
       clear cp1
       refine late_all [23, 24, 25] (by kernel_rfl) (by simp) (fun jj hjj => ?_)
       simp only [List.mem_cons, List.not_mem_nil, or_false] at hjj
       rcases hjj with rfl | rfl | rfl
       · refine late_new rfl #[.int .i64 0, .int .i64 0] 27 g1 (fun w2 b2 e2 q2 g2 l2 => ⟨fun _ => g2, ?_⟩)
         have c2 := c1.keep q2
         clear q2
         refine late_all [24, 25] (by kernel_rfl) (by simp) (fun jj hjj => ?_)
         simp only [List.mem_cons, List.not_mem_nil, or_false] at hjj
         rcases hjj with rfl | rfl
         · refine late_new rfl #[.bool false, .slice none 0 0, .slice none 0 0] 195 g2 (fun w3 b3 e3 q3 g3 l3 => ⟨fun _ => g3, ?_⟩)
           have e3x23 := q3.heap e2 (fun f => f)
           have c3 := c2.keep q3
           clear q3
           refine late_all [25] (by kernel_rfl) (by simp) (fun jj hjj => ?_)
           obtain rfl := one_of hjj
           refine late_new rfl #[.bool false, .slice none 0 0, .slice none 0 0, .slice none 0 0] 67 g3 (fun w4 b4 e4 q4 g4 l4 => ⟨fun _ => g4, ?_⟩)
           have e4x24 := q4.heap e3 (fun f => f)
           have e4x23 := q4.heap e3x23 (fun f => f)
           have c4 := c3.keep q4
           clear q4
           exact lateN _ _ (CONT (s1, b2, b3, b4) w4 ⟨c4, ⟨l2, l3, l4⟩, e4x23, e4x24, e4, g4⟩)
         · refine late_new rfl #[.bool false, .slice none 0 0, .slice none 0 0, .slice none 0 0] 67 g2 (fun w5 b5 e5 q5 g5 l5 => ⟨fun _ => g5, ?_⟩)
           have e5x23 := q5.heap e2 (fun f => f)
           have c5 := c2.keep q5
           clear q5
           refine late_all [24] (by kernel_rfl) (by simp) (fun jj hjj => ?_)
           obtain rfl := one_of hjj
           refine late_new rfl #[.bool false, .slice none 0 0, .slice none 0 0] 195 g5 (fun w6 b6 e6 q6 g6 l6 => ⟨fun _ => g6, ?_⟩)
           have e6x25 := q6.heap e5 (fun f => f)
           have e6x23 := q6.heap e5x23 (fun f => f)
           have c6 := c5.keep q6
           clear q6
           exact lateN _ _ (CONT (s1, b2, b6, b5) w6 ⟨c6, ⟨l2, l6, l5⟩, e6x23, e6, e6x25, g6⟩)
       · refine late_new rfl #[.bool false, .slice none 0 0, .slice none 0 0] 195 g1 (fun w7 b7 e7 q7 g7 l7 => ⟨fun _ => g7, ?_⟩)
         have c7 := c1.keep q7
         clear q7
         refine late_all [23, 25] (by kernel_rfl) (by simp) (fun jj hjj => ?_)
         simp only [List.mem_cons, List.not_mem_nil, or_false] at hjj
         rcases hjj with rfl | rfl
         · refine late_new rfl #[.int .i64 0, .int .i64 0] 27 g7 (fun w8 b8 e8 q8 g8 l8 => ⟨fun _ => g8, ?_⟩)
           have e8x24 := q8.heap e7 (fun f => f)
           have c8 := c7.keep q8
           clear q8
           refine late_all [25] (by kernel_rfl) (by simp) (fun jj hjj => ?_)
           obtain rfl := one_of hjj
           refine late_new rfl #[.bool false, .slice none 0 0, .slice none 0 0, .slice none 0 0] 67 g8 (fun w9 b9 e9 q9 g9 l9 => ⟨fun _ => g9, ?_⟩)
           have e9x23 := q9.heap e8 (fun f => f)
           have e9x24 := q9.heap e8x24 (fun f => f)
           have c9 := c8.keep q9
           clear q9
           exact lateN _ _ (CONT (s1, b8, b7, b9) w9 ⟨c9, ⟨l8, l7, l9⟩, e9x23, e9x24, e9, g9⟩)
         · refine late_new rfl #[.bool false, .slice none 0 0, .slice none 0 0, .slice none 0 0] 67 g7 (fun w10 b10 e10 q10 g10 l10 => ⟨fun _ => g10, ?_⟩)
           have e10x24 := q10.heap e7 (fun f => f)
           have c10 := c7.keep q10
           clear q10
           refine late_all [23] (by kernel_rfl) (by simp) (fun jj hjj => ?_)
           obtain rfl := one_of hjj
           refine late_new rfl #[.int .i64 0, .int .i64 0] 27 g10 (fun w11 b11 e11 q11 g11 l11 => ⟨fun _ => g11, ?_⟩)
           have e11x25 := q11.heap e10 (fun f => f)
           have e11x24 := q11.heap e10x24 (fun f => f)
           have c11 := c10.keep q11
           clear q11
           exact lateN _ _ (CONT (s1, b11, b7, b10) w11 ⟨c11, ⟨l11, l7, l10⟩, e11, e11x24, e11x25, g11⟩)
       · refine late_new rfl #[.bool false, .slice none 0 0, .slice none 0 0, .slice none 0 0] 67 g1 (fun w12 b12 e12 q12 g12 l12 => ⟨fun _ => g12, ?_⟩)
         have c12 := c1.keep q12
         clear q12
         refine late_all [23, 24] (by kernel_rfl) (by simp) (fun jj hjj => ?_)
         simp only [List.mem_cons, List.not_mem_nil, or_false] at hjj
         rcases hjj with rfl | rfl
         · refine late_new rfl #[.int .i64 0, .int .i64 0] 27 g12 (fun w13 b13 e13 q13 g13 l13 => ⟨fun _ => g13, ?_⟩)
           have e13x25 := q13.heap e12 (fun f => f)
           have c13 := c12.keep q13
           clear q13
           refine late_all [24] (by kernel_rfl) (by simp) (fun jj hjj => ?_)
           obtain rfl := one_of hjj
           refine late_new rfl #[.bool false, .slice none 0 0, .slice none 0 0] 195 g13 (fun w14 b14 e14 q14 g14 l14 => ⟨fun _ => g14, ?_⟩)
           have e14x23 := q14.heap e13 (fun f => f)
           have e14x25 := q14.heap e13x25 (fun f => f)
           have c14 := c13.keep q14
           clear q14
           exact lateN _ _ (CONT (s1, b13, b14, b12) w14 ⟨c14, ⟨l13, l14, l12⟩, e14x23, e14, e14x25, g14⟩)
         · refine late_new rfl #[.bool false, .slice none 0 0, .slice none 0 0] 195 g12 (fun w15 b15 e15 q15 g15 l15 => ⟨fun _ => g15, ?_⟩)
           have e15x25 := q15.heap e12 (fun f => f)
           have c15 := c12.keep q15
           clear q15
           refine late_all [23] (by kernel_rfl) (by simp) (fun jj hjj => ?_)
           obtain rfl := one_of hjj
           refine late_new rfl #[.int .i64 0, .int .i64 0] 27 g15 (fun w16 b16 e16 q16 g16 l16 => ⟨fun _ => g16, ?_⟩)
           have e16x24 := q16.heap e15 (fun f => f)
           have e16x25 := q16.heap e15x25 (fun f => f)
           have c16 := c15.keep q16
           clear q16
           exact lateN _ _ (CONT (s1, b16, b15, b12) w16 ⟨c16, ⟨l16, l15, l12⟩, e16, e16x24, e16x25, g16⟩)
     · refine late_new rfl #[.int .i64 0, .int .i64 0] 27 HS0.out (fun w17 b17 e17 q17 g17 l17 => ⟨fun _ => g17, ?_⟩)
       clear q17
       refine late_all [22, 24, 25] (by kernel_rfl) (by simp) (fun jj hjj => ?_)
       simp only [List.mem_cons, List.not_mem_nil, or_false] at hjj
       rcases hjj with rfl | rfl | rfl
       · refine late_call (f := 141) rfl rfl (by kernel_rfl) (R := fun v w' => ∃ s', v = saV s' ∧ Copied w17 w' ⟨true, ⟨la, x.lo.length, lc⟩, ⟨sa, x.st.length, sc⟩, ⟨ka, kn, kc⟩⟩ s' x.lo x.st) ((HCP.out w17 g17).mono (fun e w' ⟨s', h1, h2⟩ => ⟨_, h1, s', rfl, h2⟩)) (fun v w18 hv => ?_)
         obtain ⟨s18, rfl, cp18⟩ := hv
         have g18 : Fr no W1 w18 := g17.new cp18.fr (fun _ _ f => f)
         refine ⟨fun _ => g18, ?_⟩
         unfold saV
         have e18x23 := cp18.fr.heap e17 (fun f => f)
         have c18 := cp18.base g17
         clear cp18
         refine late_all [24, 25] (by kernel_rfl) (by simp) (fun jj hjj => ?_)
         simp only [List.mem_cons, List.not_mem_nil, or_false] at hjj
         rcases hjj with rfl | rfl
         · refine late_new rfl #[.bool false, .slice none 0 0, .slice none 0 0] 195 g18 (fun w19 b19 e19 q19 g19 l19 => ⟨fun _ => g19, ?_⟩)
           have e19x23 := q19.heap e18x23 (fun f => f)
           have c19 := c18.keep q19
           clear q19
           refine late_all [25] (by kernel_rfl) (by simp) (fun jj hjj => ?_)
           obtain rfl := one_of hjj
           refine late_new rfl #[.bool false, .slice none 0 0, .slice none 0 0, .slice none 0 0] 67 g19 (fun w20 b20 e20 q20 g20 l20 => ⟨fun _ => g20, ?_⟩)
           have e20x24 := q20.heap e19 (fun f => f)
           have e20x23 := q20.heap e19x23 (fun f => f)
           have c20 := c19.keep q20
           clear q20
           exact lateN _ _ (CONT (s18, b17, b19, b20) w20 ⟨c20, ⟨l17, l19, l20⟩, e20x23, e20x24, e20, g20⟩)
         · refine late_new rfl #[.bool false, .slice none 0 0, .slice none 0 0, .slice none 0 0] 67 g18 (fun w21 b21 e21 q21 g21 l21 => ⟨fun _ => g21, ?_⟩)
           have e21x23 := q21.heap e18x23 (fun f => f)
           have c21 := c18.keep q21
           clear q21
           refine late_all [24] (by kernel_rfl) (by simp) (fun jj hjj => ?_)
           obtain rfl := one_of hjj
           refine late_new rfl #[.bool false, .slice none 0 0, .slice none 0 0] 195 g21 (fun w22 b22 e22 q22 g22 l22 => ⟨fun _ => g22, ?_⟩)
           have e22x25 := q22.heap e21 (fun f => f)
           have e22x23 := q22.heap e21x23 (fun f => f)
           have c22 := c21.keep q22
           clear q22
           exact lateN _ _ (CONT (s18, b17, b22, b21) w22 ⟨c22, ⟨l17, l22, l21⟩, e22x23, e22, e22x25, g22⟩)
       · refine late_new rfl #[.bool false, .slice none 0 0, .slice none 0 0] 195 g17 (fun w23 b23 e23 q23 g23 l23 => ⟨fun _ => g23, ?_⟩)
         have e23x23 := q23.heap e17 (fun f => f)
         clear q23
         refine late_all [22, 25] (by kernel_rfl) (by simp) (fun jj hjj => ?_)
         simp only [List.mem_cons, List.not_mem_nil, or_false] at hjj
         rcases hjj with rfl | rfl
         · refine late_call (f := 141) rfl rfl (by kernel_rfl) (R := fun v w' => ∃ s', v = saV s' ∧ Copied w23 w' ⟨true, ⟨la, x.lo.length, lc⟩, ⟨sa, x.st.length, sc⟩, ⟨ka, kn, kc⟩⟩ s' x.lo x.st) ((HCP.out w23 g23).mono (fun e w' ⟨s', h1, h2⟩ => ⟨_, h1, s', rfl, h2⟩)) (fun v w24 hv => ?_)
           obtain ⟨s24, rfl, cp24⟩ := hv
           have g24 : Fr no W1 w24 := g23.new cp24.fr (fun _ _ f => f)
           refine ⟨fun _ => g24, ?_⟩
           unfold saV
           have e24x24 := cp24.fr.heap e23 (fun f => f)
           have e24x23 := cp24.fr.heap e23x23 (fun f => f)
           have c24 := cp24.base g23
           clear cp24
           refine late_all [25] (by kernel_rfl) (by simp) (fun jj hjj => ?_)
           obtain rfl := one_of hjj
           refine late_new rfl #[.bool false, .slice none 0 0, .slice none 0 0, .slice none 0 0] 67 g24 (fun w25 b25 e25 q25 g25 l25 => ⟨fun _ => g25, ?_⟩)
           have e25x24 := q25.heap e24x24 (fun f => f)
           have e25x23 := q25.heap e24x23 (fun f => f)
           have c25 := c24.keep q25
           clear q25
           exact lateN _ _ (CONT (s24, b17, b23, b25) w25 ⟨c25, ⟨l17, l23, l25⟩, e25x23, e25x24, e25, g25⟩)
         · refine late_new rfl #[.bool false, .slice none 0 0, .slice none 0 0, .slice none 0 0] 67 g23 (fun w26 b26 e26 q26 g26 l26 => ⟨fun _ => g26, ?_⟩)
           have e26x24 := q26.heap e23 (fun f => f)
           have e26x23 := q26.heap e23x23 (fun f => f)
           clear q26
           refine late_all [22] (by kernel_rfl) (by simp) (fun jj hjj => ?_)
           obtain rfl := one_of hjj
           refine late_call (f := 141) rfl rfl (by kernel_rfl) (R := fun v w' => ∃ s', v = saV s' ∧ Copied w26 w' ⟨true, ⟨la, x.lo.length, lc⟩, ⟨sa, x.st.length, sc⟩, ⟨ka, kn, kc⟩⟩ s' x.lo x.st) ((HCP.out w26 g26).mono (fun e w' ⟨s', h1, h2⟩ => ⟨_, h1, s', rfl, h2⟩)) (fun v w27 hv => ?_)
           obtain ⟨s27, rfl, cp27⟩ := hv
           have g27 : Fr no W1 w27 := g26.new cp27.fr (fun _ _ f => f)
           refine ⟨fun _ => g27, ?_⟩
           unfold saV
           have e27x25 := cp27.fr.heap e26 (fun f => f)
           have e27x24 := cp27.fr.heap e26x24 (fun f => f)
           have e27x23 := cp27.fr.heap e26x23 (fun f => f)
           have c27 := cp27.base g26
           clear cp27
           exact lateN _ _ (CONT (s27, b17, b23, b26) w27 ⟨c27, ⟨l17, l23, l26⟩, e27x23, e27x24, e27x25, g27⟩)
       · refine late_new rfl #[.bool false, .slice none 0 0, .slice none 0 0, .slice none 0 0] 67 g17 (fun w28 b28 e28 q28 g28 l28 => ⟨fun _ => g28, ?_⟩)
         have e28x23 := q28.heap e17 (fun f => f)
         clear q28
         refine late_all [22, 24] (by kernel_rfl) (by simp) (fun jj hjj => ?_)
         simp only [List.mem_cons, List.not_mem_nil, or_false] at hjj
         rcases hjj with rfl | rfl
         · refine late_call (f := 141) rfl rfl (by kernel_rfl) (R := fun v w' => ∃ s', v = saV s' ∧ Copied w28 w' ⟨true, ⟨la, x.lo.length, lc⟩, ⟨sa, x.st.length, sc⟩, ⟨ka, kn, kc⟩⟩ s' x.lo x.st) ((HCP.out w28 g28).mono (fun e w' ⟨s', h1, h2⟩ => ⟨_, h1, s', rfl, h2⟩)) (fun v w29 hv => ?_)
           obtain ⟨s29, rfl, cp29⟩ := hv
           have g29 : Fr no W1 w29 := g28.new cp29.fr (fun _ _ f => f)
           refine ⟨fun _ => g29, ?_⟩
           unfold saV
           have e29x25 := cp29.fr.heap e28 (fun f => f)
           have e29x23 := cp29.fr.heap e28x23 (fun f => f)
           have c29 := cp29.base g28
           clear cp29
           refine late_all [24] (by kernel_rfl) (by simp) (fun jj hjj => ?_)
           obtain rfl := one_of hjj
           refine late_new rfl #[.bool false, .slice none 0 0, .slice none 0 0] 195 g29 (fun w30 b30 e30 q30 g30 l30 => ⟨fun _ => g30, ?_⟩)
           have e30x25 := q30.heap e29x25 (fun f => f)
           have e30x23 := q30.heap e29x23 (fun f => f)
           have c30 := c29.keep q30
           clear q30
           exact lateN _ _ (CONT (s29, b17, b30, b28) w30 ⟨c30, ⟨l17, l30, l28⟩, e30x23, e30, e30x25, g30⟩)
         · refine late_new rfl #[.bool false, .slice none 0 0, .slice none 0 0] 195 g28 (fun w31 b31 e31 q31 g31 l31 => ⟨fun _ => g31, ?_⟩)
           have e31x25 := q31.heap e28 (fun f => f)
           have e31x23 := q31.heap e28x23 (fun f => f)
           clear q31
           refine late_all [22] (by kernel_rfl) (by simp) (fun jj hjj => ?_)
           obtain rfl := one_of hjj
           refine late_call (f := 141) rfl rfl (by kernel_rfl) (R := fun v w' => ∃ s', v = saV s' ∧ Copied w31 w' ⟨true, ⟨la, x.lo.length, lc⟩, ⟨sa, x.st.length, sc⟩, ⟨ka, kn, kc⟩⟩ s' x.lo x.st) ((HCP.out w31 g31).mono (fun e w' ⟨s', h1, h2⟩ => ⟨_, h1, s', rfl, h2⟩)) (fun v w32 hv => ?_)
           obtain ⟨s32, rfl, cp32⟩ := hv
           have g32 : Fr no W1 w32 := g31.new cp32.fr (fun _ _ f => f)
           refine ⟨fun _ => g32, ?_⟩
           unfold saV
           have e32x24 := cp32.fr.heap e31 (fun f => f)
           have e32x25 := cp32.fr.heap e31x25 (fun f => f)
           have e32x23 := cp32.fr.heap e31x23 (fun f => f)
           have c32 := cp32.base g31
           clear cp32
           exact lateN _ _ (CONT (s32, b17, b31, b28) w32 ⟨c32, ⟨l17, l31, l28⟩, e32x23, e32x24, e32x25, g32⟩)
     · refine late_new rfl #[.bool false, .slice none 0 0, .slice none 0 0] 195 HS0.out (fun w33 b33 e33 q33 g33 l33 => ⟨fun _ => g33, ?_⟩)
       clear q33
       refine late_all [22, 23, 25] (by kernel_rfl) (by simp) (fun jj hjj => ?_)
       simp only [List.mem_cons, List.not_mem_nil, or_false] at hjj
       rcases hjj with rfl | rfl | rfl
       · refine late_call (f := 141) rfl rfl (by kernel_rfl) (R := fun v w' => ∃ s', v = saV s' ∧ Copied w33 w' ⟨true, ⟨la, x.lo.length, lc⟩, ⟨sa, x.st.length, sc⟩, ⟨ka, kn, kc⟩⟩ s' x.lo x.st) ((HCP.out w33 g33).mono (fun e w' ⟨s', h1, h2⟩ => ⟨_, h1, s', rfl, h2⟩)) (fun v w34 hv => ?_)
         obtain ⟨s34, rfl, cp34⟩ := hv
         have g34 : Fr no W1 w34 := g33.new cp34.fr (fun _ _ f => f)
         refine ⟨fun _ => g34, ?_⟩
         unfold saV
         have e34x24 := cp34.fr.heap e33 (fun f => f)
         have c34 := cp34.base g33
         clear cp34
         refine late_all [23, 25] (by kernel_rfl) (by simp) (fun jj hjj => ?_)
         simp only [List.mem_cons, List.not_mem_nil, or_false] at hjj
         rcases hjj with rfl | rfl
         · refine late_new rfl #[.int .i64 0, .int .i64 0] 27 g34 (fun w35 b35 e35 q35 g35 l35 => ⟨fun _ => g35, ?_⟩)
           have e35x24 := q35.heap e34x24 (fun f => f)
           have c35 := c34.keep q35
           clear q35
           refine late_all [25] (by kernel_rfl) (by simp) (fun jj hjj => ?_)
           obtain rfl := one_of hjj
           refine late_new rfl #[.bool false, .slice none 0 0, .slice none 0 0, .slice none 0 0] 67 g35 (fun w36 b36 e36 q36 g36 l36 => ⟨fun _ => g36, ?_⟩)
           have e36x23 := q36.heap e35 (fun f => f)
           have e36x24 := q36.heap e35x24 (fun f => f)
           have c36 := c35.keep q36
           clear q36
           exact lateN _ _ (CONT (s34, b35, b33, b36) w36 ⟨c36, ⟨l35, l33, l36⟩, e36x23, e36x24, e36, g36⟩)
         · refine late_new rfl #[.bool false, .slice none 0 0, .slice none 0 0, .slice none 0 0] 67 g34 (fun w37 b37 e37 q37 g37 l37 => ⟨fun _ => g37, ?_⟩)
           have e37x24 := q37.heap e34x24 (fun f => f)
           have c37 := c34.keep q37
           clear q37
           refine late_all [23] (by kernel_rfl) (by simp) (fun jj hjj => ?_)
           obtain rfl := one_of hjj
           refine late_new rfl #[.int .i64 0, .int .i64 0] 27 g37 (fun w38 b38 e38 q38 g38 l38 => ⟨fun _ => g38, ?_⟩)
           have e38x25 := q38.heap e37 (fun f => f)
           have e38x24 := q38.heap e37x24 (fun f => f)
           have c38 := c37.keep q38
           clear q38
           exact lateN _ _ (CONT (s34, b38, b33, b37) w38 ⟨c38, ⟨l38, l33, l37⟩, e38, e38x24, e38x25, g38⟩)
       · refine late_new rfl #[.int .i64 0, .int .i64 0] 27 g33 (fun w39 b39 e39 q39 g39 l39 => ⟨fun _ => g39, ?_⟩)
         have e39x24 := q39.heap e33 (fun f => f)
         clear q39
         refine late_all [22, 25] (by kernel_rfl) (by simp) (fun jj hjj => ?_)
         simp only [List.mem_cons, List.not_mem_nil, or_false] at hjj
         rcases hjj with rfl | rfl
         · refine late_call (f := 141) rfl rfl (by kernel_rfl) (R := fun v w' => ∃ s', v = saV s' ∧ Copied w39 w' ⟨true, ⟨la, x.lo.length, lc⟩, ⟨sa, x.st.length, sc⟩, ⟨ka, kn, kc⟩⟩ s' x.lo x.st) ((HCP.out w39 g39).mono (fun e w' ⟨s', h1, h2⟩ => ⟨_, h1, s', rfl, h2⟩)) (fun v w40 hv => ?_)
           obtain ⟨s40, rfl, cp40⟩ := hv
           have g40 : Fr no W1 w40 := g39.new cp40.fr (fun _ _ f => f)
           refine ⟨fun _ => g40, ?_⟩
           unfold saV
           have e40x23 := cp40.fr.heap e39 (fun f => f)
           have e40x24 := cp40.fr.heap e39x24 (fun f => f)
           have c40 := cp40.base g39
           clear cp40
           refine late_all [25] (by kernel_rfl) (by simp) (fun jj hjj => ?_)
           obtain rfl := one_of hjj
           refine late_new rfl #[.bool false, .slice none 0 0, .slice none 0 0, .slice none 0 0] 67 g40 (fun w41 b41 e41 q41 g41 l41 => ⟨fun _ => g41, ?_⟩)
           have e41x23 := q41.heap e40x23 (fun f => f)
           have e41x24 := q41.heap e40x24 (fun f => f)
           have c41 := c40.keep q41
           clear q41
           exact lateN _ _ (CONT (s40, b39, b33, b41) w41 ⟨c41, ⟨l39, l33, l41⟩, e41x23, e41x24, e41, g41⟩)
         · refine late_new rfl #[.bool false, .slice none 0 0, .slice none 0 0, .slice none 0 0] 67 g39 (fun w42 b42 e42 q42 g42 l42 => ⟨fun _ => g42, ?_⟩)
           have e42x23 := q42.heap e39 (fun f => f)
           have e42x24 := q42.heap e39x24 (fun f => f)
           clear q42
           refine late_all [22] (by kernel_rfl) (by simp) (fun jj hjj => ?_)
           obtain rfl := one_of hjj
           refine late_call (f := 141) rfl rfl (by kernel_rfl) (R := fun v w' => ∃ s', v = saV s' ∧ Copied w42 w' ⟨true, ⟨la, x.lo.length, lc⟩, ⟨sa, x.st.length, sc⟩, ⟨ka, kn, kc⟩⟩ s' x.lo x.st) ((HCP.out w42 g42).mono (fun e w' ⟨s', h1, h2⟩ => ⟨_, h1, s', rfl, h2⟩)) (fun v w43 hv => ?_)
           obtain ⟨s43, rfl, cp43⟩ := hv
           have g43 : Fr no W1 w43 := g42.new cp43.fr (fun _ _ f => f)
           refine ⟨fun _ => g43, ?_⟩
           unfold saV
           have e43x25 := cp43.fr.heap e42 (fun f => f)
           have e43x23 := cp43.fr.heap e42x23 (fun f => f)
           have e43x24 := cp43.fr.heap e42x24 (fun f => f)
           have c43 := cp43.base g42
           clear cp43
           exact lateN _ _ (CONT (s43, b39, b33, b42) w43 ⟨c43, ⟨l39, l33, l42⟩, e43x23, e43x24, e43x25, g43⟩)
       · refine late_new rfl #[.bool false, .slice none 0 0, .slice none 0 0, .slice none 0 0] 67 g33 (fun w44 b44 e44 q44 g44 l44 => ⟨fun _ => g44, ?_⟩)
         have e44x24 := q44.heap e33 (fun f => f)
         clear q44
         refine late_all [22, 23] (by kernel_rfl) (by simp) (fun jj hjj => ?_)
         simp only [List.mem_cons, List.not_mem_nil, or_false] at hjj
         rcases hjj with rfl | rfl
         · refine late_call (f := 141) rfl rfl (by kernel_rfl) (R := fun v w' => ∃ s', v = saV s' ∧ Copied w44 w' ⟨true, ⟨la, x.lo.length, lc⟩, ⟨sa, x.st.length, sc⟩, ⟨ka, kn, kc⟩⟩ s' x.lo x.st) ((HCP.out w44 g44).mono (fun e w' ⟨s', h1, h2⟩ => ⟨_, h1, s', rfl, h2⟩)) (fun v w45 hv => ?_)
           obtain ⟨s45, rfl, cp45⟩ := hv
           have g45 : Fr no W1 w45 := g44.new cp45.fr (fun _ _ f => f)
           refine ⟨fun _ => g45, ?_⟩
           unfold saV
           have e45x25 := cp45.fr.heap e44 (fun f => f)
           have e45x24 := cp45.fr.heap e44x24 (fun f => f)
           have c45 := cp45.base g44
           clear cp45
           refine late_all [23] (by kernel_rfl) (by simp) (fun jj hjj => ?_)
           obtain rfl := one_of hjj
           refine late_new rfl #[.int .i64 0, .int .i64 0] 27 g45 (fun w46 b46 e46 q46 g46 l46 => ⟨fun _ => g46, ?_⟩)
           have e46x25 := q46.heap e45x25 (fun f => f)
           have e46x24 := q46.heap e45x24 (fun f => f)
           have c46 := c45.keep q46
           clear q46
           exact lateN _ _ (CONT (s45, b46, b33, b44) w46 ⟨c46, ⟨l46, l33, l44⟩, e46, e46x24, e46x25, g46⟩)
         · refine late_new rfl #[.int .i64 0, .int .i64 0] 27 g44 (fun w47 b47 e47 q47 g47 l47 => ⟨fun _ => g47, ?_⟩)
           have e47x25 := q47.heap e44 (fun f => f)
           have e47x24 := q47.heap e44x24 (fun f => f)
           clear q47
           refine late_all [22] (by kernel_rfl) (by simp) (fun jj hjj => ?_)
           obtain rfl := one_of hjj
           refine late_call (f := 141) rfl rfl (by kernel_rfl) (R := fun v w' => ∃ s', v = saV s' ∧ Copied w47 w' ⟨true, ⟨la, x.lo.length, lc⟩, ⟨sa, x.st.length, sc⟩, ⟨ka, kn, kc⟩⟩ s' x.lo x.st) ((HCP.out w47 g47).mono (fun e w' ⟨s', h1, h2⟩ => ⟨_, h1, s', rfl, h2⟩)) (fun v w48 hv => ?_)
           obtain ⟨s48, rfl, cp48⟩ := hv
           have g48 : Fr no W1 w48 := g47.new cp48.fr (fun _ _ f => f)
           refine ⟨fun _ => g48, ?_⟩
           unfold saV
           have e48x23 := cp48.fr.heap e47 (fun f => f)
           have e48x25 := cp48.fr.heap e47x25 (fun f => f)
           have e48x24 := cp48.fr.heap e47x24 (fun f => f)
           have c48 := cp48.base g47
           clear cp48
           exact lateN _ _ (CONT (s48, b47, b33, b44) w48 ⟨c48, ⟨l47, l33, l44⟩, e48x23, e48x24, e48x25, g48⟩)
     · refine late_new rfl #[.bool false, .slice none 0 0, .slice none 0 0, .slice none 0 0] 67 HS0.out (fun w49 b49 e49 q49 g49 l49 => ⟨fun _ => g49, ?_⟩)
       clear q49
       refine late_all [22, 23, 24] (by kernel_rfl) (by simp) (fun jj hjj => ?_)
       simp only [List.mem_cons, List.not_mem_nil, or_false] at hjj
       rcases hjj with rfl | rfl | rfl
       · refine late_call (f := 141) rfl rfl (by kernel_rfl) (R := fun v w' => ∃ s', v = saV s' ∧ Copied w49 w' ⟨true, ⟨la, x.lo.length, lc⟩, ⟨sa, x.st.length, sc⟩, ⟨ka, kn, kc⟩⟩ s' x.lo x.st) ((HCP.out w49 g49).mono (fun e w' ⟨s', h1, h2⟩ => ⟨_, h1, s', rfl, h2⟩)) (fun v w50 hv => ?_)
         obtain ⟨s50, rfl, cp50⟩ := hv
         have g50 : Fr no W1 w50 := g49.new cp50.fr (fun _ _ f => f)
         refine ⟨fun _ => g50, ?_⟩
         unfold saV
         have e50x25 := cp50.fr.heap e49 (fun f => f)
         have c50 := cp50.base g49
         clear cp50
         refine late_all [23, 24] (by kernel_rfl) (by simp) (fun jj hjj => ?_)
         simp only [List.mem_cons, List.not_mem_nil, or_false] at hjj
         rcases hjj with rfl | rfl
         · refine late_new rfl #[.int .i64 0, .int .i64 0] 27 g50 (fun w51 b51 e51 q51 g51 l51 => ⟨fun _ => g51, ?_⟩)
           have e51x25 := q51.heap e50x25 (fun f => f)
           have c51 := c50.keep q51
           clear q51
           refine late_all [24] (by kernel_rfl) (by simp) (fun jj hjj => ?_)
           obtain rfl := one_of hjj
           refine late_new rfl #[.bool false, .slice none 0 0, .slice none 0 0] 195 g51 (fun w52 b52 e52 q52 g52 l52 => ⟨fun _ => g52, ?_⟩)
           have e52x23 := q52.heap e51 (fun f => f)
           have e52x25 := q52.heap e51x25 (fun f => f)
           have c52 := c51.keep q52
           clear q52
           exact lateN _ _ (CONT (s50, b51, b52, b49) w52 ⟨c52, ⟨l51, l52, l49⟩, e52x23, e52, e52x25, g52⟩)
         · refine late_new rfl #[.bool false, .slice none 0 0, .slice none 0 0] 195 g50 (fun w53 b53 e53 q53 g53 l53 => ⟨fun _ => g53, ?_⟩)
           have e53x25 := q53.heap e50x25 (fun f => f)
           have c53 := c50.keep q53
           clear q53
           refine late_all [23] (by kernel_rfl) (by simp) (fun jj hjj => ?_)
           obtain rfl := one_of hjj
           refine late_new rfl #[.int .i64 0, .int .i64 0] 27 g53 (fun w54 b54 e54 q54 g54 l54 => ⟨fun _ => g54, ?_⟩)
           have e54x24 := q54.heap e53 (fun f => f)
           have e54x25 := q54.heap e53x25 (fun f => f)
           have c54 := c53.keep q54
           clear q54
           exact lateN _ _ (CONT (s50, b54, b53, b49) w54 ⟨c54, ⟨l54, l53, l49⟩, e54, e54x24, e54x25, g54⟩)
       · refine late_new rfl #[.int .i64 0, .int .i64 0] 27 g49 (fun w55 b55 e55 q55 g55 l55 => ⟨fun _ => g55, ?_⟩)
         have e55x25 := q55.heap e49 (fun f => f)
         clear q55
         refine late_all [22, 24] (by kernel_rfl) (by simp) (fun jj hjj => ?_)
         simp only [List.mem_cons, List.not_mem_nil, or_false] at hjj
         rcases hjj with rfl | rfl
         · refine late_call (f := 141) rfl rfl (by kernel_rfl) (R := fun v w' => ∃ s', v = saV s' ∧ Copied w55 w' ⟨true, ⟨la, x.lo.length, lc⟩, ⟨sa, x.st.length, sc⟩, ⟨ka, kn, kc⟩⟩ s' x.lo x.st) ((HCP.out w55 g55).mono (fun e w' ⟨s', h1, h2⟩ => ⟨_, h1, s', rfl, h2⟩)) (fun v w56 hv => ?_)
           obtain ⟨s56, rfl, cp56⟩ := hv
           have g56 : Fr no W1 w56 := g55.new cp56.fr (fun _ _ f => f)
           refine ⟨fun _ => g56, ?_⟩
           unfold saV
           have e56x23 := cp56.fr.heap e55 (fun f => f)
           have e56x25 := cp56.fr.heap e55x25 (fun f => f)
           have c56 := cp56.base g55
           clear cp56
           refine late_all [24] (by kernel_rfl) (by simp) (fun jj hjj => ?_)
           obtain rfl := one_of hjj
           refine late_new rfl #[.bool false, .slice none 0 0, .slice none 0 0] 195 g56 (fun w57 b57 e57 q57 g57 l57 => ⟨fun _ => g57, ?_⟩)
           have e57x23 := q57.heap e56x23 (fun f => f)
           have e57x25 := q57.heap e56x25 (fun f => f)
           have c57 := c56.keep q57
           clear q57
           exact lateN _ _ (CONT (s56, b55, b57, b49) w57 ⟨c57, ⟨l55, l57, l49⟩, e57x23, e57, e57x25, g57⟩)
         · refine late_new rfl #[.bool false, .slice none 0 0, .slice none 0 0] 195 g55 (fun w58 b58 e58 q58 g58 l58 => ⟨fun _ => g58, ?_⟩)
           have e58x23 := q58.heap e55 (fun f => f)
           have e58x25 := q58.heap e55x25 (fun f => f)
           clear q58
           refine late_all [22] (by kernel_rfl) (by simp) (fun jj hjj => ?_)
           obtain rfl := one_of hjj
           refine late_call (f := 141) rfl rfl (by kernel_rfl) (R := fun v w' => ∃ s', v = saV s' ∧ Copied w58 w' ⟨true, ⟨la, x.lo.length, lc⟩, ⟨sa, x.st.length, sc⟩, ⟨ka, kn, kc⟩⟩ s' x.lo x.st) ((HCP.out w58 g58).mono (fun e w' ⟨s', h1, h2⟩ => ⟨_, h1, s', rfl, h2⟩)) (fun v w59 hv => ?_)
           obtain ⟨s59, rfl, cp59⟩ := hv
           have g59 : Fr no W1 w59 := g58.new cp59.fr (fun _ _ f => f)
           refine ⟨fun _ => g59, ?_⟩
           unfold saV
           have e59x24 := cp59.fr.heap e58 (fun f => f)
           have e59x23 := cp59.fr.heap e58x23 (fun f => f)
           have e59x25 := cp59.fr.heap e58x25 (fun f => f)
           have c59 := cp59.base g58
           clear cp59
           exact lateN _ _ (CONT (s59, b55, b58, b49) w59 ⟨c59, ⟨l55, l58, l49⟩, e59x23, e59x24, e59x25, g59⟩)
       · refine late_new rfl #[.bool false, .slice none 0 0, .slice none 0 0] 195 g49 (fun w60 b60 e60 q60 g60 l60 => ⟨fun _ => g60, ?_⟩)
         have e60x25 := q60.heap e49 (fun f => f)
         clear q60
         refine late_all [22, 23] (by kernel_rfl) (by simp) (fun jj hjj => ?_)
         simp only [List.mem_cons, List.not_mem_nil, or_false] at hjj
         rcases hjj with rfl | rfl
         · refine late_call (f := 141) rfl rfl (by kernel_rfl) (R := fun v w' => ∃ s', v = saV s' ∧ Copied w60 w' ⟨true, ⟨la, x.lo.length, lc⟩, ⟨sa, x.st.length, sc⟩, ⟨ka, kn, kc⟩⟩ s' x.lo x.st) ((HCP.out w60 g60).mono (fun e w' ⟨s', h1, h2⟩ => ⟨_, h1, s', rfl, h2⟩)) (fun v w61 hv => ?_)
           obtain ⟨s61, rfl, cp61⟩ := hv
           have g61 : Fr no W1 w61 := g60.new cp61.fr (fun _ _ f => f)
           refine ⟨fun _ => g61, ?_⟩
           unfold saV
           have e61x24 := cp61.fr.heap e60 (fun f => f)
           have e61x25 := cp61.fr.heap e60x25 (fun f => f)
           have c61 := cp61.base g60
           clear cp61
           refine late_all [23] (by kernel_rfl) (by simp) (fun jj hjj => ?_)
           obtain rfl := one_of hjj
           refine late_new rfl #[.int .i64 0, .int .i64 0] 27 g61 (fun w62 b62 e62 q62 g62 l62 => ⟨fun _ => g62, ?_⟩)
           have e62x24 := q62.heap e61x24 (fun f => f)
           have e62x25 := q62.heap e61x25 (fun f => f)
           have c62 := c61.keep q62
           clear q62
           exact lateN _ _ (CONT (s61, b62, b60, b49) w62 ⟨c62, ⟨l62, l60, l49⟩, e62, e62x24, e62x25, g62⟩)
         · refine late_new rfl #[.int .i64 0, .int .i64 0] 27 g60 (fun w63 b63 e63 q63 g63 l63 => ⟨fun _ => g63, ?_⟩)
           have e63x24 := q63.heap e60 (fun f => f)
           have e63x25 := q63.heap e60x25 (fun f => f)
           clear q63
           refine late_all [22] (by kernel_rfl) (by simp) (fun jj hjj => ?_)
           obtain rfl := one_of hjj
           refine late_call (f := 141) rfl rfl (by kernel_rfl) (R := fun v w' => ∃ s', v = saV s' ∧ Copied w63 w' ⟨true, ⟨la, x.lo.length, lc⟩, ⟨sa, x.st.length, sc⟩, ⟨ka, kn, kc⟩⟩ s' x.lo x.st) ((HCP.out w63 g63).mono (fun e w' ⟨s', h1, h2⟩ => ⟨_, h1, s', rfl, h2⟩)) (fun v w64 hv => ?_)
           obtain ⟨s64, rfl, cp64⟩ := hv
           have g64 : Fr no W1 w64 := g63.new cp64.fr (fun _ _ f => f)
           refine ⟨fun _ => g64, ?_⟩
           unfold saV
           have e64x23 := cp64.fr.heap e63 (fun f => f)
           have e64x24 := cp64.fr.heap e63x24 (fun f => f)
           have e64x25 := cp64.fr.heap e63x25 (fun f => f)
           have c64 := cp64.base g63
           clear cp64
           exact lateN _ _ (CONT (s64, b63, b60, b49) w64 ⟨c64, ⟨l63, l60, l49⟩, e64x23, e64x24, e64x25, g64⟩)
 · have HNE : Hid (runErr r ins x ≠ 0) := he
   have hne' : (runErr r ins x == 0) = false := by simpa using he
   generalize runErr r ins x = ee at *
   have hee : ¬ ee = 0 := he
   go_enter Tryz.func134, Tryz.ntmps134
   go_wp2_with fail
   refine MR.mono ?_
   rintro e W1 ⟨rfl, F1⟩
   have Z7 := F1.heap E0 (fun f => f)
   obtain ⟨v0, v1, v2, v3⟩ := box4 Z7
   have fzz := fun o => frozen_at (o := o) Z7
   have HC : Hid _ := And.intro (chain4 Z7 (.bool false) (.slice none 0 0) (.slice none 0 0) (.slice none 0 0)) (frc4 W1 w.heap.size (.bool false) (.slice none 0 0) (.slice none 0 0) (.slice none 0 0))
   have HG : Hid (Fr no w W1) := G0.new F1 (fun _ _ f => f)
   clear MR E0 G0 F1 Z7
   go_wp2_with fail
   refine bodyPost_ret (results_109 _ w.heap.size _ _ _ _ _ HC.out.1 _ rfl rfl) rfl ?_
   exact ⟨⟨false, ⟨none, 0, 0⟩, ⟨none, 0, 0⟩, ⟨none, 0, 0⟩⟩, rfl, fun e => absurd e HNE.out, HG.out.new HC.out.2 (fun k hk e => by omega)⟩
end Go.Proofs.YtalgjpmaafooeaaGreatDoor
