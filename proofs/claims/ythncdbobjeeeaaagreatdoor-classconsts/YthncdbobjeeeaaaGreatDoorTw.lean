/- Two fields, two methods of one name. -/
import Derived.Test.YthncdbobjeeeaaaGreatDoorGq
import Derived.Deep.RegionLaw
namespace Go.Proofs.YthncdbobjeeeaaaGreatDoor
open Go.ChangeShapes Go.WideShapes Go.ChangeAt Go.RowKit

theorem ownG_one {α : Type} {K : El α} (hK : K.Ok) {w : World} {r : Nat} (x : α) (hb : w.heap[r]? = some (.cells (K.f x).toArray K.e (0, 0))) : OwnG K w (.slice (some ⟨r, 0, none⟩) 1 1) [x] := by
  refine ⟨⟨by simp [cg, hK.len], .inr ⟨r, 1, _, rfl, Nat.zero_le _, hb, by simp, by unfold maxLen; omega, by simp [hK.len], by simp only [cg, List.flatMap_cons, List.flatMap_nil, List.append_nil]; exact List.take_of_length_le (by simp [hK.len])⟩⟩, fun k cur t fz hk hc u hu => ?_⟩
  simp only [Value.ownBlock, Option.some.injEq] at hk
  subst hk
  rw [hb] at hc
  simp only [Option.some.injEq, Obj.cells.injEq] at hc
  rw [← hc.1] at hu
  exact hK.nb x u (by simpa using hu)

theorem step_apdG {α : Type} {K : El α} (hK : K.Ok) (w : World) {ops : Array Oper} {o : Oper} {a : Act} {K2 : Act → World → Prop} {Q : Exit → Act → World → Prop} {E : Prop}
    (hg : o.guard = none) (ht : o.type = K.t) (s x : Operand) (hop : o.op = Op.call { callee := Callee.builtin Builtin.append, args := #[s, x], argTypes := #[K.t, K.t] })
    (v : Value) (l : List α) (hs : a.eval s = v) (hown : OwnG K w v l) (xv : Value) (hx : a.eval x = xv) (m : List α) (hsrc : Src Tryz.prog K.n K.t xv m.length (cg K m) w)
    (hm0 : m ≠ []) (hb : l.length + m.length ≤ 1000000)
    (hK' : ∀ v' w', OwnG K w' v' (l ++ m) → Sp no v w v' w' → K2 (a.put o.dst v') w') :
    if Region.wanted o (yielded ops a.tmps) = true then Oper.wp Tryz.prog o a w K2 Q else E := by
  have hw : Region.wanted o (yielded ops a.tmps) = true := by simp [Region.wanted, hg]
  rw [if_pos hw]
  obtain ⟨v', w', hrun, r1, r2⟩ := run_apdG hK w v l hown xv m hsrc hm0 hb
  unfold Oper.wp
  simp [execOp, hop, ht, resolve, invoke, builtin, hs, hx, hrun, Result.andThen]
  exact hK' v' w' r1 r2

def fdM : Fd := ⟨⟨#[109, 97, 105, 110]⟩, ⟨1, e0⟩, false⟩
def twC (fl : List Fd) (ml : List Mt) : Cl := ⟨⟨#[77, 97, 105, 110]⟩, e0, [], fl, ml⟩
def twK (f m : Sv) : Ks := ⟨⟨#[77, 97, 105, 110]⟩, e0, ⟨none, 0, 0⟩, f, m⟩

theorem tw_fit (fl : List Fd) (ml : List Mt) (hf : ∀ x ∈ fl, x = fdM) (hm : ∀ x ∈ ml, x = smM 33) : FitC (twC fl ml) :=
  ⟨fit_small _ (show 4 ≤ 1000 by decide), fit_small _ (show 0 ≤ 1000 by decide), fun x hx => by simp [twC] at hx, fun x hx => by rw [hf x hx]; exact ⟨fit_small _ (show 4 ≤ 1000 by decide), fit_small _ (show 0 ≤ 1000 by decide)⟩,
    fun m h => by rw [hm m h]; exact ⟨fit_small _ (show 4 ≤ 1000 by decide), fit_small _ (show 0 ≤ 1000 by decide), fun t ht => by simp [smM] at ht⟩⟩

theorem tw0 : chk (twC [fdM] [smM 33]) = 0 := by decide
theorem tw1 : chk (twC [fdM, fdM] [smM 33]) = 53 := by decide
theorem tw2 : chk (twC [fdM] [smM 33, smM 33]) = 53 := by decide
theorem tw3 : chk (twC [fdM, fdM] [smM 33, smM 33]) = 53 := by decide

theorem atAll_two {w : World} {s s' : Ms} {m m' : Mt} (h : MtAt w s m) (h' : MtAt w s' m') : AtAll w [s, s'] [m, m'] := by
  refine ⟨rfl, fun i a b ha hb => ?_⟩
  match i, ha, hb with
  | 0, ha, hb => simp at ha hb; subst ha hb; exact h
  | 1, ha, hb => simp at ha hb; subst ha hb; exact h'
  | n + 2, ha, _ => simp at ha

/-- What the law's class looks like: the box p, the field's box k, the code q; the rows are owned. -/
structure TwAt (w : World) (p k q : Nat) (f m : Sv) (fl : List Fd) (ls : List Ms) : Prop where
  box : w.heap[p]? = some (.cells #[.string ⟨#[77, 97, 105, 110]⟩, .string ⟨#[]⟩, .slice none 0 0, .slice f.a f.n f.c, .slice m.a m.n m.c] 28 (0, 0))
  fd : w.heap[k]? = some (.cells #[.string ⟨#[109, 97, 105, 110]⟩, .int .i64 1, .string ⟨#[]⟩, .bool false] 48 (0, 0))
  code : w.heap[q]? = some (.cells #[.int .i64 33, .int .i64 0] 57 (0, 0))
  f : OwnG elFd w (.slice f.a f.n f.c) fl
  m : OwnG elMs w (.slice m.a m.n m.c) ls

theorem TwAt.at1 {w : World} {p k q : Nat} {f m : Sv} {fl : List Fd} (h : TwAt w p k q f m fl [smS q]) : ClAt w (twK f m) (twC fl [smM 33]) :=
  ⟨rfl, rfl, show SlG elCs w (.slice none 0 0) [] from (OwnG.nil _ _).sl okCs, h.f.sl okFd, [smS q], h.m.sl okMs, atAll_one (smS_at h.code)⟩
theorem TwAt.at2 {w : World} {p k q : Nat} {f m : Sv} {fl : List Fd} (h : TwAt w p k q f m fl [smS q, smS q]) : ClAt w (twK f m) (twC fl [smM 33, smM 33]) :=
  ⟨rfl, rfl, show SlG elCs w (.slice none 0 0) [] from (OwnG.nil _ _).sl okCs, h.f.sl okFd, [smS q, smS q], h.m.sl okMs, atAll_two (smS_at h.code) (smS_at h.code)⟩
theorem TwAt.kept {w w' : World} {p k q : Nat} {f m : Sv} {fl : List Fd} {ls : List Ms} (h : TwAt w p k q f m fl ls) (hf : Fr no w w') : TwAt w' p k q f m fl ls :=
  ⟨hf.heap h.box (fun f => f), hf.heap h.fd (fun f => f), hf.heap h.code (fun f => f), h.f.kept hf (fun _ _ f => f), h.m.kept hf (fun _ _ f => f)⟩

theorem TwAt.addF {w w6 : World} {p k q : Nat} {f m : Sv} {fl : List Fd} {ls : List Ms} {v6 : Value} (T : TwAt w p k q f m fl ls) (hk : (Value.slice f.a f.n f.c).ownBlock ≠ some k) (o6 : OwnG elFd w6 v6 (fl ++ [fdM])) (s6 : Sp no (.slice f.a f.n f.c) (w.alloc (.cells #[.string ⟨#[109, 97, 105, 110]⟩, .int .i64 1, .string ⟨#[]⟩, .bool false] 48)) v6 w6) :
    ∃ f' : Sv, v6 = .slice f'.a f'.n f'.c ∧ w6.heap[p]? = some (.cells #[.string ⟨#[77, 97, 105, 110]⟩, .string ⟨#[]⟩, .slice none 0 0, .slice f.a f.n f.c, .slice m.a m.n m.c] 28 (0, 0)) ∧
      TwAt (w6.setCell ⟨p, 3, none⟩ (.slice f'.a f'.n f'.c)) p k q f' m (fl ++ [fdM]) ls ∧ Fr (fun i => i = p ∨ (Value.slice f.a f.n f.c).ownBlock = some i) w (w6.setCell ⟨p, 3, none⟩ (.slice f'.a f'.n f'.c)) ∧
      (w6.setCell ⟨p, 3, none⟩ (.slice f'.a f'.n f'.c)).heap[p]? = some (.cells #[.string ⟨#[77, 97, 105, 110]⟩, .string ⟨#[]⟩, .slice none 0 0, .slice f'.a f'.n f'.c, .slice m.a m.n m.c] 28 (0, 0)) := by
  obtain ⟨o, cap, e6⟩ := o6.form
  have fa : Fr no w (w.alloc (.cells #[.string ⟨#[109, 97, 105, 110]⟩, .int .i64 1, .string ⟨#[]⟩, .bool false] 48)) := (Fr.refl no w).alloc _ _
  have f6 : Fr (fun i => (Value.slice f.a f.n f.c).ownBlock = some i) w w6 := fa.trans s6.1 (fun _ _ f => f.elim) (fun _ _ e => e.elim (fun f => f.elim) (fun e => e))
  have tg : ∀ i, (Value.slice f.a f.n f.c).ownBlock = some i → ∀ cur t fz, w.heap[i]? = some (.cells cur t fz) → t = 48 := by
    intro i hi cur t fz e
    obtain ⟨cur', e'⟩ := T.f.tag hi
    rw [e'] at e
    simp only [Option.some.injEq, Obj.cells.injEq] at e
    exact e.2.1.symm
  have nt : ∀ {i : Nat} {cur : Array Value} {t : TypeId} {fz : Nat × Nat}, w.heap[i]? = some (.cells cur t fz) → t ≠ 48 → ¬ (Value.slice f.a f.n f.c).ownBlock = some i := fun h1 h2 h3 => h2 (tg _ h3 _ _ _ h1)
  have hb6 := f6.heap T.box (nt T.box (by decide))
  have hd6 := f6.heap T.fd hk
  have hq6 := f6.heap T.code (nt T.code (by decide))
  have hm6 : OwnG elMs w6 (.slice m.a m.n m.c) ls := T.m.but f6 (fun i hi cur t fz e => by rw [tg i hi cur t fz e]; decide)
  have fs : Fr (fun i => i = p) w6 (w6.setCell ⟨p, 3, none⟩ v6) := (Fr.refl (fun i => i = p) w6).setCell (p := ⟨p, 3, none⟩) (fun _ => rfl) _
  have ns : ∀ {i : Nat} {cur : Array Value} {t : TypeId} {fz : Nat × Nat}, w6.heap[i]? = some (.cells cur t fz) → t ≠ 28 → ¬ i = p := by
    intro i cur t fz h1 h2 h3
    subst h3
    rw [hb6] at h1
    simp only [Option.some.injEq, Obj.cells.injEq] at h1
    exact h2 h1.2.1.symm
  have hbx : (w6.setCell ⟨p, 3, none⟩ v6).heap[p]? = some (.cells #[.string ⟨#[77, 97, 105, 110]⟩, .string ⟨#[]⟩, .slice none 0 0, v6, .slice m.a m.n m.c] 28 (0, 0)) := by
    unfold World.setCell
    rw [Array.getElem?_modify, if_pos rfl, hb6]
    rfl
  have ts : ∀ i, i = p → ∀ cur t fz, w6.heap[i]? = some (.cells cur t fz) → t = 28 := by
    intro i hi cur t fz e
    subst hi
    rw [hb6] at e
    simp only [Option.some.injEq, Obj.cells.injEq] at e
    exact e.2.1.symm
  have o7 : OwnG elFd (w6.setCell ⟨p, 3, none⟩ v6) v6 (fl ++ [fdM]) := o6.but fs (fun i hi cur t fz e => by rw [ts i hi cur t fz e]; decide)
  have m7 : OwnG elMs (w6.setCell ⟨p, 3, none⟩ v6) (.slice m.a m.n m.c) ls := hm6.but fs (fun i hi cur t fz e => by rw [ts i hi cur t fz e]; decide)
  subst e6
  exact ⟨⟨o, (fl ++ [fdM]).length, cap⟩, rfl, hb6, ⟨hbx, fs.heap hd6 (ns hd6 (by decide)), fs.heap hq6 (ns hq6 (by decide)), o7, m7⟩, f6.trans fs (fun _ _ e => .inr e) (fun _ _ e => .inl e), hbx⟩

theorem TwAt.addM {w w6 : World} {p k q : Nat} {f m : Sv} {fl : List Fd} {ls : List Ms} {v6 : Value} (T : TwAt w p k q f m fl ls) (o6 : OwnG elMs w6 v6 (ls ++ [smS q])) (s6 : Sp no (.slice m.a m.n m.c) (w.alloc (.cells #[.string ⟨#[109, 97, 105, 110]⟩, .slice none 0 0, .int .i64 0, .string ⟨#[]⟩, .int .i64 1, .int .i64 0, .slice (some ⟨q, 0, none⟩) 1 1, .slice none 0 0] 53)) v6 w6) :
    ∃ m' : Sv, v6 = .slice m'.a m'.n m'.c ∧ w6.heap[p]? = some (.cells #[.string ⟨#[77, 97, 105, 110]⟩, .string ⟨#[]⟩, .slice none 0 0, .slice f.a f.n f.c, .slice m.a m.n m.c] 28 (0, 0)) ∧
      TwAt (w6.setCell ⟨p, 4, none⟩ (.slice m'.a m'.n m'.c)) p k q f m' fl (ls ++ [smS q]) ∧ Fr (fun i => i = p ∨ (Value.slice m.a m.n m.c).ownBlock = some i) w (w6.setCell ⟨p, 4, none⟩ (.slice m'.a m'.n m'.c)) ∧
      (w6.setCell ⟨p, 4, none⟩ (.slice m'.a m'.n m'.c)).heap[p]? = some (.cells #[.string ⟨#[77, 97, 105, 110]⟩, .string ⟨#[]⟩, .slice none 0 0, .slice f.a f.n f.c, .slice m'.a m'.n m'.c] 28 (0, 0)) := by
  obtain ⟨o, cap, e6⟩ := o6.form
  have fa : Fr no w (w.alloc (.cells #[.string ⟨#[109, 97, 105, 110]⟩, .slice none 0 0, .int .i64 0, .string ⟨#[]⟩, .int .i64 1, .int .i64 0, .slice (some ⟨q, 0, none⟩) 1 1, .slice none 0 0] 53)) := (Fr.refl no w).alloc _ _
  have f6 : Fr (fun i => (Value.slice m.a m.n m.c).ownBlock = some i) w w6 := fa.trans s6.1 (fun _ _ f => f.elim) (fun _ _ e => e.elim (fun f => f.elim) (fun e => e))
  have tg : ∀ i, (Value.slice m.a m.n m.c).ownBlock = some i → ∀ cur t fz, w.heap[i]? = some (.cells cur t fz) → t = 53 := by
    intro i hi cur t fz e
    obtain ⟨cur', e'⟩ := T.m.tag hi
    rw [e'] at e
    simp only [Option.some.injEq, Obj.cells.injEq] at e
    exact e.2.1.symm
  have nt : ∀ {i : Nat} {cur : Array Value} {t : TypeId} {fz : Nat × Nat}, w.heap[i]? = some (.cells cur t fz) → t ≠ 53 → ¬ (Value.slice m.a m.n m.c).ownBlock = some i := fun h1 h2 h3 => h2 (tg _ h3 _ _ _ h1)
  have hb6 := f6.heap T.box (nt T.box (by decide))
  have hd6 := f6.heap T.fd (nt T.fd (by decide))
  have hq6 := f6.heap T.code (nt T.code (by decide))
  have hm6 : OwnG elFd w6 (.slice f.a f.n f.c) fl := T.f.but f6 (fun i hi cur t fz e => by rw [tg i hi cur t fz e]; decide)
  have fs : Fr (fun i => i = p) w6 (w6.setCell ⟨p, 4, none⟩ v6) := (Fr.refl (fun i => i = p) w6).setCell (p := ⟨p, 4, none⟩) (fun _ => rfl) _
  have ns : ∀ {i : Nat} {cur : Array Value} {t : TypeId} {fz : Nat × Nat}, w6.heap[i]? = some (.cells cur t fz) → t ≠ 28 → ¬ i = p := by
    intro i cur t fz h1 h2 h3
    subst h3
    rw [hb6] at h1
    simp only [Option.some.injEq, Obj.cells.injEq] at h1
    exact h2 h1.2.1.symm
  have hbx : (w6.setCell ⟨p, 4, none⟩ v6).heap[p]? = some (.cells #[.string ⟨#[77, 97, 105, 110]⟩, .string ⟨#[]⟩, .slice none 0 0, .slice f.a f.n f.c, v6] 28 (0, 0)) := by
    unfold World.setCell
    rw [Array.getElem?_modify, if_pos rfl, hb6]
    rfl
  have ts : ∀ i, i = p → ∀ cur t fz, w6.heap[i]? = some (.cells cur t fz) → t = 28 := by
    intro i hi cur t fz e
    subst hi
    rw [hb6] at e
    simp only [Option.some.injEq, Obj.cells.injEq] at e
    exact e.2.1.symm
  have o7 : OwnG elMs (w6.setCell ⟨p, 4, none⟩ v6) v6 (ls ++ [smS q]) := o6.but fs (fun i hi cur t fz e => by rw [ts i hi cur t fz e]; decide)
  have m7 : OwnG elFd (w6.setCell ⟨p, 4, none⟩ v6) (.slice f.a f.n f.c) fl := hm6.but fs (fun i hi cur t fz e => by rw [ts i hi cur t fz e]; decide)
  subst e6
  exact ⟨⟨o, (ls ++ [smS q]).length, cap⟩, rfl, hb6, ⟨hbx, fs.heap hd6 (ns hd6 (by decide)), fs.heap hq6 (ns hq6 (by decide)), m7, o7⟩, f6.trans fs (fun _ _ e => .inr e) (fun _ _ e => .inl e), hbx⟩

set_option maxRecDepth 100000 in
set_option maxHeartbeats 4000000 in
theorem twice_any (w : World) (T : Tb w) (R : Tr w) (a b : Bool) : Calls Tryz.prog 5 #[.bool a, .bool b] w fun e w' => e = .returned (.bool true) ∧ Fr no w w' := by
  have HTR : Hid (∀ w1, Fr no w w1 → Tb w1 ∧ Tr w1) := fun w1 f => ⟨T.kept f, R.kept f⟩
  have KN := known_any w T R
  clear T R
  go_enter Tryz.func5, Tryz.ntmps5
  go_wp2_with fail
  refine KN.mono ?_
  rintro x w1 ⟨rfl, f1⟩
  go_wp2_with fail
  refine (small_any w1).mono ?_
  rintro x w2 ⟨q, r, rfl, hqs, hrs, hne, hq, hr, f2⟩
  have fw2 := f1.new f2 (fun _ _ f => f)
  have hltq : q < w2.heap.size := by
    rcases Nat.lt_or_ge q w2.heap.size with h | h
    · exact h
    · rw [Array.getElem?_eq_none h] at hq; simp at hq
  have hltr : r < w2.heap.size := by
    rcases Nat.lt_or_ge r w2.heap.size with h | h
    · exact h
    · rw [Array.getElem?_eq_none h] at hr; simp at hr
  have b2 := heap_alloc_new w2 (.cells #[.string ⟨#[]⟩, .string ⟨#[]⟩, .slice none 0 0, .slice none 0 0, .slice none 0 0] 28)
  have s2 := size_alloc w2 (.cells #[.string ⟨#[]⟩, .string ⟨#[]⟩, .slice none 0 0, .slice none 0 0, .slice none 0 0] 28)
  have g2 : Fr no w2 (w2.alloc (.cells #[.string ⟨#[]⟩, .string ⟨#[]⟩, .slice none 0 0, .slice none 0 0, .slice none 0 0] 28)) := (Fr.refl no w2).alloc _ _
  generalize hW2 : w2.alloc (.cells #[.string ⟨#[]⟩, .string ⟨#[]⟩, .slice none 0 0, .slice none 0 0, .slice none 0 0] 28) = W2 at *
  have b2v : (World.setCell (World.setCell (World.setCell (World.setCell (World.setCell W2 ⟨w2.heap.size, 0, none⟩ (.string ⟨#[77, 97, 105, 110]⟩)) ⟨w2.heap.size, 1, none⟩ (.string ⟨#[]⟩)) ⟨w2.heap.size, 2, none⟩ (.slice none 0 0)) ⟨w2.heap.size, 3, none⟩ (.slice none 0 0)) ⟨w2.heap.size, 4, none⟩ (.slice (some ⟨r, 0, none⟩) 1 1)).heap[w2.heap.size]? = some (.cells #[.string ⟨#[77, 97, 105, 110]⟩, .string ⟨#[]⟩, .slice none 0 0, .slice none 0 0, .slice (some ⟨r, 0, none⟩) 1 1] 28 (0, 0)) := set_chain5 b2
  have g2v := fr_chain5 W2 w2.heap.size (.string ⟨#[77, 97, 105, 110]⟩) (.string ⟨#[]⟩) (.slice none 0 0) (.slice none 0 0) (.slice (some ⟨r, 0, none⟩) 1 1)
  have s2v : (World.setCell (World.setCell (World.setCell (World.setCell (World.setCell W2 ⟨w2.heap.size, 0, none⟩ (.string ⟨#[77, 97, 105, 110]⟩)) ⟨w2.heap.size, 1, none⟩ (.string ⟨#[]⟩)) ⟨w2.heap.size, 2, none⟩ (.slice none 0 0)) ⟨w2.heap.size, 3, none⟩ (.slice none 0 0)) ⟨w2.heap.size, 4, none⟩ (.slice (some ⟨r, 0, none⟩) 1 1)).heap.size = w2.heap.size + 1 := by rw [← s2]; simp
  generalize hV2 : (World.setCell (World.setCell (World.setCell (World.setCell (World.setCell W2 ⟨w2.heap.size, 0, none⟩ (.string ⟨#[77, 97, 105, 110]⟩)) ⟨w2.heap.size, 1, none⟩ (.string ⟨#[]⟩)) ⟨w2.heap.size, 2, none⟩ (.slice none 0 0)) ⟨w2.heap.size, 3, none⟩ (.slice none 0 0)) ⟨w2.heap.size, 4, none⟩ (.slice (some ⟨r, 0, none⟩) 1 1)) = V2 at *
  have g2' : Fr no w2 V2 := g2.trans g2v (fun _ _ f => f) (fun i hi e => by omega)
  obtain ⟨⟨c0, c1, c2, c3, c4⟩, z0, z1, z2, z3, z4⟩ := cells5z b2
  have b3 := heap_alloc_new V2 (.cells #[.string ⟨#[]⟩, .int .i64 0, .string ⟨#[]⟩, .bool false] 48)
  have s3 := size_alloc V2 (.cells #[.string ⟨#[]⟩, .int .i64 0, .string ⟨#[]⟩, .bool false] 48)
  have g3 : Fr no V2 (V2.alloc (.cells #[.string ⟨#[]⟩, .int .i64 0, .string ⟨#[]⟩, .bool false] 48)) := (Fr.refl no V2).alloc _ _
  rw [s2v] at b3 s3
  generalize hW3 : V2.alloc (.cells #[.string ⟨#[]⟩, .int .i64 0, .string ⟨#[]⟩, .bool false] 48) = W3 at *
  have b3v : (World.setCell (World.setCell (World.setCell (World.setCell W3 ⟨w2.heap.size + 1, 0, none⟩ (.string ⟨#[109, 97, 105, 110]⟩)) ⟨w2.heap.size + 1, 1, none⟩ (.int .i64 1)) ⟨w2.heap.size + 1, 2, none⟩ (.string ⟨#[]⟩)) ⟨w2.heap.size + 1, 3, none⟩ (.bool false)).heap[w2.heap.size + 1]? = some (.cells #[.string ⟨#[109, 97, 105, 110]⟩, .int .i64 1, .string ⟨#[]⟩, .bool false] 48 (0, 0)) := set_chain4 b3
  have g3v := fr_chain4 W3 (w2.heap.size + 1) (.string ⟨#[109, 97, 105, 110]⟩) (.int .i64 1) (.string ⟨#[]⟩) (.bool false)
  have s3v : (World.setCell (World.setCell (World.setCell (World.setCell W3 ⟨w2.heap.size + 1, 0, none⟩ (.string ⟨#[109, 97, 105, 110]⟩)) ⟨w2.heap.size + 1, 1, none⟩ (.int .i64 1)) ⟨w2.heap.size + 1, 2, none⟩ (.string ⟨#[]⟩)) ⟨w2.heap.size + 1, 3, none⟩ (.bool false)).heap.size = w2.heap.size + 1 + 1 := by rw [← s3]; simp
  generalize hV3 : (World.setCell (World.setCell (World.setCell (World.setCell W3 ⟨w2.heap.size + 1, 0, none⟩ (.string ⟨#[109, 97, 105, 110]⟩)) ⟨w2.heap.size + 1, 1, none⟩ (.int .i64 1)) ⟨w2.heap.size + 1, 2, none⟩ (.string ⟨#[]⟩)) ⟨w2.heap.size + 1, 3, none⟩ (.bool false)) = V3 at *
  have g3' : Fr no V2 V3 := g3.trans g3v (fun _ _ f => f) (fun i hi e => by omega)
  obtain ⟨⟨d0, d1, d2, d3⟩, y0, y1, y2, y3⟩ := cells4z b3
  obtain ⟨⟨e0', e1', e2', e3'⟩, -⟩ := cells4z b3v
  have b4 := heap_alloc_new V3 (.cells #[.string ⟨#[109, 97, 105, 110]⟩, .int .i64 1, .string ⟨#[]⟩, .bool false] 48)
  have g4 : Fr no V3 (V3.alloc (.cells #[.string ⟨#[109, 97, 105, 110]⟩, .int .i64 1, .string ⟨#[]⟩, .bool false] 48)) := (Fr.refl no V3).alloc _ _
  rw [s3v] at b4
  generalize hW4 : V3.alloc (.cells #[.string ⟨#[109, 97, 105, 110]⟩, .int .i64 1, .string ⟨#[]⟩, .bool false] 48) = W4 at *
  have bx4 := g4.heap (g3'.heap b2v (fun f => f)) (fun f => f)
  obtain ⟨⟨h0, h1, h2, h3, h4⟩, x0, x1, x2, x3, x4⟩ := cells5z bx4
  have g4v : Fr (fun k => k = w2.heap.size) W4 (W4.setCell ⟨w2.heap.size, 3, none⟩ (.slice (some ⟨w2.heap.size + 1 + 1, 0, none⟩) 1 1)) := (Fr.refl (fun k => k = w2.heap.size) W4).setCell (p := ⟨w2.heap.size, 3, none⟩) (fun _ => rfl) _
  have bx5 : (W4.setCell ⟨w2.heap.size, 3, none⟩ (.slice (some ⟨w2.heap.size + 1 + 1, 0, none⟩) 1 1)).heap[w2.heap.size]? = some (.cells #[.string ⟨#[77, 97, 105, 110]⟩, .string ⟨#[]⟩, .slice none 0 0, .slice (some ⟨w2.heap.size + 1 + 1, 0, none⟩) 1 1, .slice (some ⟨r, 0, none⟩) 1 1] 28 (0, 0)) := by
    unfold World.setCell
    rw [Array.getElem?_modify, if_pos rfl, bx4]
    rfl
  generalize hV4 : W4.setCell ⟨w2.heap.size, 3, none⟩ (.slice (some ⟨w2.heap.size + 1 + 1, 0, none⟩) 1 1) = V4 at *
  obtain ⟨⟨k0, k1, k2, k3, k4⟩, -⟩ := cells5z bx5
  have TW : TwAt V4 w2.heap.size (w2.heap.size + 1) q ⟨some ⟨w2.heap.size + 1 + 1, 0, none⟩, 1, 1⟩ ⟨some ⟨r, 0, none⟩, 1, 1⟩ [fdM] [smS q] :=
    ⟨bx5, g4v.heap (g4.heap b3v (fun f => f)) (fun e => by omega), g4v.heap (g4.heap (g3'.heap (g2'.heap hq (fun f => f)) (fun f => f)) (fun f => f)) (fun e => by omega), ownG_one okFd fdM (g4v.heap b4 (fun e => by omega)), ownG_one okMs (smS q) (g4v.heap (g4.heap (g3'.heap (g2'.heap hr (fun f => f)) (fun f => f)) (fun f => f)) (fun e => by omega))⟩
  have f24 : Fr no w2 V4 := ((g2'.new g3' (fun _ _ f => f)).new g4 (fun _ _ f => f)).trans g4v (fun _ _ f => f) (fun i hi e => by omega)
  have HV4 : Hid (Fr no w V4) := fw2.new f24 (fun _ _ f => f)
  have C := check_any V4 (HTR.out V4 HV4.out).1 (HTR.out V4 HV4.out).2 _ _ TW.at1 (tw_fit [fdM] [smM 33] (by simp) (by simp))
  rw [tw0] at C
  unfold ksV twK e0 at C
  simp only [] at C
  have HTW : Hid (TwAt V4 w2.heap.size (w2.heap.size + 1) q ⟨some ⟨w2.heap.size + 1 + 1, 0, none⟩, 1, 1⟩ ⟨some ⟨r, 0, none⟩, 1, 1⟩ [fdM] [smS q]) := TW
  have HR : Hid (V4.heap[r]? = some (.cells #[.string ⟨#[109, 97, 105, 110]⟩, .slice none 0 0, .int .i64 0, .string ⟨#[]⟩, .int .i64 1, .int .i64 0, .slice (some ⟨q, 0, none⟩) 1 1, .slice none 0 0] 53 (0, 0))) := g4v.heap (g4.heap (g3'.heap (g2'.heap hr (fun f => f)) (fun f => f)) (fun f => f)) (fun e => by omega)
  have hPw : w.heap.size ≤ w2.heap.size := fw2.size
  have hrw : w.heap.size ≤ r := Nat.le_trans f1.size hrs
  clear TW f24 g4v g4 b4 bx4 bx5 g3 g3' g3v b3 b3v g2 g2' g2v b2 b2v fw2 f1 f2 hq hr KN
  go_wp2_with fail
  clear hW2 hV2 hW3 hV3 hW4 hV4 c0 c1 c2 c3 c4 z0 z1 z2 z3 z4 d0 d1 d2 d3 y0 y1 y2 y3 e0' e1' e2' e3' h0 h1 h2 h3 h4 x0 x1 x2 x3 x4 k0 k1 k2 k3 k4 s2 s2v s3 s3v
  refine C.mono ?_
  rintro x w5 ⟨rfl, f5⟩
  clear C
  have fw5 := HV4.out.new f5 (fun _ _ f => f)
  have T5 := HTW.out.kept f5
  have R5 := f5.heap HR.out (fun f => f)
  clear HTW HV4 f5 HR
  generalize hP : w2.heap.size = P at *
  clear hP
  obtain ⟨⟨k0, k1, k2, k3, k4⟩, z0, z1, z2, z3, z4⟩ := cells5z T5.box
  cases a
  · cases b
    · have C := check_any w5 (HTR.out w5 fw5).1 (HTR.out w5 fw5).2 _ _ T5.at1 (tw_fit [fdM] [smM 33] (by simp) (by simp))
      try simp only [List.cons_append, List.nil_append] at C
      rw [tw0] at C
      unfold ksV twK e0 at C
      simp only [] at C
      clear T5
      go_wp2_with fail
      refine C.mono ?_
      rintro x w8 ⟨rfl, f8⟩
      go_wp2_with fail
      go_ret
      exact ⟨rfl, fw5.new f8 (fun _ _ f => f)⟩
    · have TD := T5.kept ((Fr.refl no w5).drew)
      have fB : Fr no w5.drew ((w5.alloc (.cells #[.string ⟨#[109, 97, 105, 110]⟩, .slice none 0 0, .int .i64 0, .string ⟨#[]⟩, .int .i64 1, .int .i64 0, .slice (some ⟨q, 0, none⟩) 1 1, .slice none 0 0] 53)).drew) := (Fr.refl no w5.drew).alloc _ _
      have hownM := TD.m.kept fB (fun _ _ f => f)
      have hsrcM : Src Tryz.prog 8 26 (.slice (some ⟨w5.heap.size, 0, none⟩) 1 1) ([smS q] : List Ms).length (cg elMs [smS q]) ((w5.alloc (.cells #[.string ⟨#[109, 97, 105, 110]⟩, .slice none 0 0, .int .i64 0, .string ⟨#[]⟩, .int .i64 1, .int .i64 0, .slice (some ⟨q, 0, none⟩) 1 1, .slice none 0 0] 53)).drew) := srcG_one okMs w5.drew (smS q)
      have ADDM : Hid (∀ v7 w7, OwnG elMs w7 v7 ([smS q] ++ [smS q]) → Sp no (.slice (some ⟨r, 0, none⟩) 1 1) ((w5.alloc (.cells #[.string ⟨#[109, 97, 105, 110]⟩, .slice none 0 0, .int .i64 0, .string ⟨#[]⟩, .int .i64 1, .int .i64 0, .slice (some ⟨q, 0, none⟩) 1 1, .slice none 0 0] 53)).drew) v7 w7 → _) := fun v7 w7 o7 s7 => TD.addM o7 s7
      obtain ⟨⟨m0, m1, m2, m3, m4, m5, m6, m7⟩, -⟩ := cells8z R5
      have kW : (w5.alloc (.cells #[.string ⟨#[109, 97, 105, 110]⟩, .slice none 0 0, .int .i64 0, .string ⟨#[]⟩, .int .i64 1, .int .i64 0, .slice (some ⟨q, 0, none⟩) 1 1, .slice none 0 0] 53)).cell? ⟨P, 4, none⟩ = some (.slice (some ⟨r, 0, none⟩) 1 1) := ((Fr.refl no w5).alloc _ _).cell k4 (fun f => f)
      clear T5 R5 fB TD
      generalize hW7 : w5.alloc (.cells #[.string ⟨#[109, 97, 105, 110]⟩, .slice none 0 0, .int .i64 0, .string ⟨#[]⟩, .int .i64 1, .int .i64 0, .slice (some ⟨q, 0, none⟩) 1 1, .slice none 0 0] 53) = W7 at *
      go_wp2_with fail
      go_region_law (refine step_apdG okMs W7.drew rfl rfl (.tmp 27) (.tmp 32) rfl _ [smS q] (by simp [Act.eval]) hownM _ (by simp [Act.eval]) [smS q] hsrcM (by simp) (by simp) ?_; intro v7 w7 o7 s7; obtain ⟨f7, rfl, hb8, T7, F7, hb9⟩ := ADDM.out v7 w7 o7 s7; clear o7 s7; obtain ⟨⟨g0, g1, g2, g3, g4⟩, y0, y1, y2, y3, y4⟩ := cells5z hb8; generalize hV7 : w7.setCell ⟨P, 4, none⟩ (.slice f7.a f7.n f7.c) = V7 at *; obtain ⟨⟨j0, j1, j2, j3, j4⟩, u0, u1, u2, u3, u4⟩ := cells5z hb9; clear hb8 hb9)
      all_goals
        have F7' : Fr (fun i => i = P ∨ (Value.slice (some ⟨r, 0, none⟩) 1 1).ownBlock = some i) w5 V7 := ((Fr.refl no w5).drew).trans F7 (fun _ _ f => f.elim) (fun _ _ e => e)
        have fw7 : Fr no w V7 := fw5.trans F7' (fun _ _ f => f) (fun i hi e => by
          rcases e with e | e
          · omega
          · simp only [Value.ownBlock, Option.some.injEq] at e
            omega)
        have C := check_any V7 (HTR.out V7 fw7).1 (HTR.out V7 fw7).2 _ _ T7.at2 (tw_fit [fdM] [smM 33, smM 33] (by simp) (by simp))
        try simp only [List.cons_append, List.nil_append] at C
        rw [tw2] at C
        unfold ksV twK e0 at C
        simp only [] at C
        clear T7
        clear F7 F7'
        go_wp2_with fail
        refine C.mono ?_
        rintro x w8 ⟨rfl, f8⟩
        go_wp2_with fail
        go_ret
        exact ⟨rfl, fw7.new f8 (fun _ _ f => f)⟩
  · have fA : Fr no w5 (w5.alloc (.cells #[.string ⟨#[109, 97, 105, 110]⟩, .int .i64 1, .string ⟨#[]⟩, .bool false] 48)) := (Fr.refl no w5).alloc _ _
    have hown := T5.f.kept fA (fun _ _ f => f)
    have hsrc : Src Tryz.prog 4 25 (.slice (some ⟨w5.heap.size, 0, none⟩) 1 1) ([fdM] : List Fd).length (cg elFd [fdM]) (w5.alloc (.cells #[.string ⟨#[109, 97, 105, 110]⟩, .int .i64 1, .string ⟨#[]⟩, .bool false] 48)) := srcG_one okFd w5 fdM
    have ADD : Hid (∀ v6 w6, OwnG elFd w6 v6 ([fdM] ++ [fdM]) → Sp no (.slice (some ⟨P + 1 + 1, 0, none⟩) 1 1) (w5.alloc (.cells #[.string ⟨#[109, 97, 105, 110]⟩, .int .i64 1, .string ⟨#[]⟩, .bool false] 48)) v6 w6 → _) := fun v6 w6 o6 s6 => T5.addF (by simp [Value.ownBlock]) o6 s6
    obtain ⟨⟨e0', e1', e2', e3'⟩, -⟩ := cells4z T5.fd
    have HR5 : Hid (w5.heap[r]? = some (.cells #[.string ⟨#[109, 97, 105, 110]⟩, .slice none 0 0, .int .i64 0, .string ⟨#[]⟩, .int .i64 1, .int .i64 0, .slice (some ⟨q, 0, none⟩) 1 1, .slice none 0 0] 53 (0, 0))) := R5
    have hne2 : ¬ r = P ∧ ¬ r = P + 1 + 1 := by omega
    clear T5 R5 fA
    generalize hW5 : w5.alloc (.cells #[.string ⟨#[109, 97, 105, 110]⟩, .int .i64 1, .string ⟨#[]⟩, .bool false] 48) = W5 at *
    have G : Hid (∀ (w6 : World) (f6 : Sv) V6, Fr (fun i => i = P ∨ (Value.slice (some ⟨P + 1 + 1, 0, none⟩) 1 1).ownBlock = some i) w5 V6 → Fr no w V6 ∧ V6.heap[r]? = some (.cells #[.string ⟨#[109, 97, 105, 110]⟩, .slice none 0 0, .int .i64 0, .string ⟨#[]⟩, .int .i64 1, .int .i64 0, .slice (some ⟨q, 0, none⟩) 1 1, .slice none 0 0] 53 (0, 0))) := by
      intro _ _ V6 F6
      have hS : ∀ i, (i = P ∨ (Value.slice (some ⟨P + 1 + 1, 0, none⟩) 1 1).ownBlock = some i) → i = P ∨ i = P + 1 + 1 := fun i e => e.elim .inl (fun e => .inr (by simpa [Value.ownBlock] using e.symm))
      exact ⟨fw5.trans F6 (fun _ _ f => f) (fun i hi e => by rcases hS i e with e | e <;> omega), F6.heap HR5.out (fun e => by rcases hS r e with e | e; exact hne2.1 e; exact hne2.2 e)⟩
    cases b
    · go_wp2_with (at_builtin; refine wpList_apdG okFd W5 rfl rfl (.tmp 20) (.tmp 22) rfl _ [fdM] rfl hown _ rfl [fdM] hsrc (by simp) (by simp) ?_; intro v6 w6 o6 s6; obtain ⟨f6, rfl, hb6, T6, F6, hb7⟩ := ADD.out v6 w6 o6 s6; clear o6 s6; obtain ⟨⟨g0, g1, g2, g3, g4⟩, y0, y1, y2, y3, y4⟩ := cells5z hb6; generalize hV6 : w6.setCell ⟨P, 3, none⟩ (.slice f6.a f6.n f6.c) = V6 at *; obtain ⟨⟨j0, j1, j2, j3, j4⟩, u0, u1, u2, u3, u4⟩ := cells5z hb7; clear hb6 hb7)
      have fw6 := (G.out w6 f6 V6 F6).1
      have C := check_any V6 (HTR.out V6 fw6).1 (HTR.out V6 fw6).2 _ _ T6.at1 (tw_fit [fdM, fdM] [smM 33] (by simp) (by simp))
      try simp only [List.cons_append, List.nil_append] at C
      rw [tw1] at C
      unfold ksV twK e0 at C
      simp only [] at C
      clear T6
      refine C.mono ?_
      rintro x w8 ⟨rfl, f8⟩
      go_wp2_with fail
      go_ret
      exact ⟨rfl, fw6.new f8 (fun _ _ f => f)⟩
    · go_wp2_with (at_builtin; refine wpList_apdG okFd W5 rfl rfl (.tmp 20) (.tmp 22) rfl _ [fdM] rfl hown _ rfl [fdM] hsrc (by simp) (by simp) ?_; intro v6 w6 o6 s6; obtain ⟨f6, rfl, hb6, T6, F6, hb7⟩ := ADD.out v6 w6 o6 s6; clear o6 s6; obtain ⟨⟨g0, g1, g2, g3, g4⟩, y0, y1, y2, y3, y4⟩ := cells5z hb6; generalize hV6 : w6.setCell ⟨P, 3, none⟩ (.slice f6.a f6.n f6.c) = V6 at *; obtain ⟨⟨j0, j1, j2, j3, j4⟩, u0, u1, u2, u3, u4⟩ := cells5z hb7; clear hb6 hb7)
      obtain ⟨fw6, R5⟩ := G.out w6 f6 V6 F6
      clear F6
      have TD := T6.kept ((Fr.refl no V6).drew)
      have fB : Fr no V6.drew ((V6.alloc (.cells #[.string ⟨#[109, 97, 105, 110]⟩, .slice none 0 0, .int .i64 0, .string ⟨#[]⟩, .int .i64 1, .int .i64 0, .slice (some ⟨q, 0, none⟩) 1 1, .slice none 0 0] 53)).drew) := (Fr.refl no V6.drew).alloc _ _
      have hownM := TD.m.kept fB (fun _ _ f => f)
      have hsrcM : Src Tryz.prog 8 26 (.slice (some ⟨V6.heap.size, 0, none⟩) 1 1) ([smS q] : List Ms).length (cg elMs [smS q]) ((V6.alloc (.cells #[.string ⟨#[109, 97, 105, 110]⟩, .slice none 0 0, .int .i64 0, .string ⟨#[]⟩, .int .i64 1, .int .i64 0, .slice (some ⟨q, 0, none⟩) 1 1, .slice none 0 0] 53)).drew) := srcG_one okMs V6.drew (smS q)
      have ADDM : Hid (∀ v7 w7, OwnG elMs w7 v7 ([smS q] ++ [smS q]) → Sp no (.slice (some ⟨r, 0, none⟩) 1 1) ((V6.alloc (.cells #[.string ⟨#[109, 97, 105, 110]⟩, .slice none 0 0, .int .i64 0, .string ⟨#[]⟩, .int .i64 1, .int .i64 0, .slice (some ⟨q, 0, none⟩) 1 1, .slice none 0 0] 53)).drew) v7 w7 → _) := fun v7 w7 o7 s7 => TD.addM o7 s7
      obtain ⟨⟨m0, m1, m2, m3, m4, m5, m6, m7⟩, -⟩ := cells8z R5
      have kW : (V6.alloc (.cells #[.string ⟨#[109, 97, 105, 110]⟩, .slice none 0 0, .int .i64 0, .string ⟨#[]⟩, .int .i64 1, .int .i64 0, .slice (some ⟨q, 0, none⟩) 1 1, .slice none 0 0] 53)).cell? ⟨P, 4, none⟩ = some (.slice (some ⟨r, 0, none⟩) 1 1) := ((Fr.refl no V6).alloc _ _).cell j4 (fun f => f)
      clear T6 R5 fB TD
      generalize hW7 : V6.alloc (.cells #[.string ⟨#[109, 97, 105, 110]⟩, .slice none 0 0, .int .i64 0, .string ⟨#[]⟩, .int .i64 1, .int .i64 0, .slice (some ⟨q, 0, none⟩) 1 1, .slice none 0 0] 53) = W7 at *
      go_region_law (refine step_apdG okMs W7.drew rfl rfl (.tmp 27) (.tmp 32) rfl _ [smS q] (by simp [Act.eval]) hownM _ (by simp [Act.eval]) [smS q] hsrcM (by simp) (by simp) ?_; intro v7 w7 o7 s7; obtain ⟨f7, rfl, hb8, T7, F7, hb9⟩ := ADDM.out v7 w7 o7 s7; clear o7 s7; obtain ⟨⟨g0, g1, g2, g3, g4⟩, y0, y1, y2, y3, y4⟩ := cells5z hb8; generalize hV7 : w7.setCell ⟨P, 4, none⟩ (.slice f7.a f7.n f7.c) = V7 at *; obtain ⟨⟨j0, j1, j2, j3, j4⟩, u0, u1, u2, u3, u4⟩ := cells5z hb9; clear hb8 hb9)
      all_goals
        have F7' : Fr (fun i => i = P ∨ (Value.slice (some ⟨r, 0, none⟩) 1 1).ownBlock = some i) V6 V7 := ((Fr.refl no V6).drew).trans F7 (fun _ _ f => f.elim) (fun _ _ e => e)
        have fw7 : Fr no w V7 := fw6.trans F7' (fun _ _ f => f) (fun i hi e => by
          rcases e with e | e
          · omega
          · simp only [Value.ownBlock, Option.some.injEq] at e
            omega)
        have C := check_any V7 (HTR.out V7 fw7).1 (HTR.out V7 fw7).2 _ _ T7.at2 (tw_fit [fdM, fdM] [smM 33, smM 33] (by simp) (by simp))
        try simp only [List.cons_append, List.nil_append] at C
        rw [tw3] at C
        unfold ksV twK e0 at C
        simp only [] at C
        clear T7
        clear F7 F7'
        go_wp2_with fail
        refine C.mono ?_
        rintro x w8 ⟨rfl, f8⟩
        go_wp2_with fail
        go_ret
        exact ⟨rfl, fw7.new f8 (fun _ _ f => f)⟩
end Go.Proofs.YthncdbobjeeeaaaGreatDoor

