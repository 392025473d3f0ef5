/- The bounds of a method: locals, stack, code, handlers. -/
import Derived.Test.YthncdbobjeeeaaaGreatDoorTw
namespace Go.Proofs.YthncdbobjeeeaaaGreatDoor
open Go.ChangeShapes Go.WideShapes Go.ChangeAt Go.RowKit

theorem okIn : elIn.Ok where
  und := Tryz.underlying50
  info := by kernel_rfl
  len := fun _ => rfl
  one := fun x u hu => by simp [elIn] at hu; rcases hu with rfl | rfl <;> rfl
  nb := fun x u hu => by simp [elIn] at hu; rcases hu with rfl | rfl <;> exact nob_int _
  zlen := rfl
  znb := fun u hu => by
    have : u ∈ [Value.int .i64 0, .int .i64 0] := hu
    simp at this; rcases this with rfl; exact nob_int _
  bs := by decide
  pos := by decide

theorem OwnG.src {α : Type} {K : El α} (hK : K.Ok) {w : World} {g cap : Nat} {l : List α} (h : OwnG K w (.slice (some ⟨g, 0, none⟩) l.length cap) l) : Src Tryz.prog K.n K.t (.slice (some ⟨g, 0, none⟩) l.length cap) l.length (cg K l) w :=
  Src.ofSlice _ hK.und ⟨g, 0, none⟩ _ _ _ (cg_length hK l) (fun j u hj => by simpa [Addr.add] using World.ownsRow.cells h.1 (g := g) rfl j u hj) (cg_one hK l)

theorem OwnG.head {α : Type} {K : El α} {w : World} {v : Value} {l : List α} (h : OwnG K w v l) (hl : l ≠ []) : ∃ g cap, v = .slice (some ⟨g, 0, none⟩) l.length cap := by
  rcases h.1.2 with ⟨_, h0⟩ | ⟨g, cap, cur, e, _⟩
  · exact absurd (List.eq_nil_of_length_eq_zero h0) hl
  · exact ⟨g, cap, e⟩

theorem OwnG.len_eq {α : Type} {K : El α} {w : World} {c : Sv} {l : List α} (h : OwnG K w (.slice c.a c.n c.c) l) : c.n = l.length := by
  obtain ⟨o, cap, e⟩ := h.form
  simp only [Value.slice.injEq] at e
  exact e.2.1

theorem OwnG.slI {w : World} {v : Value} {l : List (Int × Int)} (h : OwnG elIn w v l) : SlI w v l := by
  obtain ⟨ad, cap, e, h1, h2, h3⟩ := h.sl okIn
  refine ⟨ad, cap, e, h1, h2, fun i x hx => ?_⟩
  obtain ⟨b, off, e', hc⟩ := h3 i x hx
  exact ⟨b, off, e', hc 0 _ rfl, hc 1 _ rfl⟩

def bdM (lo st : Int) (code : List (Int × Int)) (hands : List Hd) : Mt := ⟨⟨#[109, 97, 105, 110]⟩, [], ⟨0, e0⟩, lo, st, code, hands⟩
def bdC (m : Mt) : Cl := ⟨⟨#[77, 97, 105, 110]⟩, e0, [], [], [m]⟩
def hdX : Hd := ⟨0, 1, 0, -1, 0⟩

theorem bd_fit (lo st : Int) (code : List (Int × Int)) (hands : List Hd) : FitC (bdC (bdM lo st code hands)) :=
  ⟨fit_small _ (show 4 ≤ 1000 by decide), fit_small _ (show 0 ≤ 1000 by decide), fun x hx => by simp [bdC] at hx, fun x hx => by simp [bdC] at hx,
    fun m h => by simp [bdC] at h; subst h; exact ⟨fit_small _ (show 4 ≤ 1000 by decide), fit_small _ (show 0 ≤ 1000 by decide), fun t ht => by simp [bdM] at ht⟩⟩

theorem bd00 : chk (bdC (bdM 32 0 [(33, 0)] [])) = 0 := by decide
theorem bd01 : chk (bdC (bdM 33 0 [(33, 0)] [])) = 32 := by decide
theorem bd10 : chk (bdC (bdM 1 64 [(33, 0)] [])) = 0 := by decide
theorem bd11 : chk (bdC (bdM 1 65 [(33, 0)] [])) = 32 := by decide
theorem bd20 : chk (bdC (bdM 1 0 (List.replicate 199 (0, 0) ++ [(33, 0)]) [])) = 0 := by decide +kernel
theorem bd21 : chk (bdC (bdM 1 0 (List.replicate 200 (0, 0) ++ [(33, 0)]) [])) = 32 := by decide +kernel
theorem bd30 : chk (bdC (bdM 1 0 [(33, 0)] (List.replicate 16 hdX))) = 0 := by decide +kernel
theorem bd31 : chk (bdC (bdM 1 0 [(33, 0)] (List.replicate 17 hdX))) = 32 := by decide +kernel

/-- What the law's class looks like: the box p, the method's row r. -/
structure BdAt (w : World) (p r : Nat) (lo st : Int) (c h : Sv) (code : List (Int × Int)) (hands : List Hd) : Prop where
  box : w.heap[p]? = some (.cells #[.string ⟨#[77, 97, 105, 110]⟩, .string ⟨#[]⟩, .slice none 0 0, .slice none 0 0, .slice (some ⟨r, 0, none⟩) 1 1] 28 (0, 0))
  row : w.heap[r]? = some (.cells #[.string ⟨#[109, 97, 105, 110]⟩, .slice none 0 0, .int .i64 0, .string ⟨#[]⟩, .int .i64 lo, .int .i64 st, .slice c.a c.n c.c, .slice h.a h.n h.c] 53 (0, 0))
  c : OwnG elIn w (.slice c.a c.n c.c) code
  h : OwnG elHd w (.slice h.a h.n h.c) hands

theorem BdAt.at {w : World} {p r : Nat} {lo st : Int} {c h : Sv} {code : List (Int × Int)} {hands : List Hd} (T : BdAt w p r lo st c h code hands) : ClAt w (smK r) (bdC (bdM lo st code hands)) := by
  refine ⟨rfl, rfl, show SlG elCs w (.slice none 0 0) [] from (OwnG.nil _ _).sl okCs, show SlG elFd w (.slice none 0 0) [] from (OwnG.nil _ _).sl okFd, [⟨⟨#[109, 97, 105, 110]⟩, ⟨none, 0, 0⟩, ⟨0, e0⟩, lo, st, c, h⟩], show SlG elMs w (.slice (some ⟨r, 0, none⟩) 1 1) _ from slG_one T.row _ (fun j u hj => ?_), atAll_one ⟨rfl, rfl, rfl, rfl, show SlG elTy w (.slice none 0 0) [] from (OwnG.nil _ _).sl okTy, T.c.slI, T.h.sl okHd⟩⟩
  rw [← hj]
  match j with
  | 0 => rfl
  | 1 => rfl
  | 2 => rfl
  | 3 => rfl
  | 4 => rfl
  | 5 => rfl
  | 6 => rfl
  | 7 => rfl
  | n + 8 => simp [elMs, msC]

/-- A cell of the method's row set. -/
theorem BdAt.set {w : World} {p r : Nat} {lo st lo' st' : Int} {c h c' h' : Sv} {code' : List (Int × Int)} {hands' : List Hd} (box : w.heap[p]? = some (.cells #[.string ⟨#[77, 97, 105, 110]⟩, .string ⟨#[]⟩, .slice none 0 0, .slice none 0 0, .slice (some ⟨r, 0, none⟩) 1 1] 28 (0, 0))) (row : w.heap[r]? = some (.cells #[.string ⟨#[109, 97, 105, 110]⟩, .slice none 0 0, .int .i64 0, .string ⟨#[]⟩, .int .i64 lo, .int .i64 st, .slice c.a c.n c.c, .slice h.a h.n h.c] 53 (0, 0)))
    (hc : OwnG elIn w (.slice c'.a c'.n c'.c) code') (hh : OwnG elHd w (.slice h'.a h'.n h'.c) hands') (j : Nat) (v : Value)
    (hrow : (#[.string ⟨#[109, 97, 105, 110]⟩, .slice none 0 0, .int .i64 0, .string ⟨#[]⟩, .int .i64 lo, .int .i64 st, .slice c.a c.n c.c, .slice h.a h.n h.c] : Array Value).setIfInBounds j v = #[.string ⟨#[109, 97, 105, 110]⟩, .slice none 0 0, .int .i64 0, .string ⟨#[]⟩, .int .i64 lo', .int .i64 st', .slice c'.a c'.n c'.c, .slice h'.a h'.n h'.c]) :
    BdAt (w.setCell ⟨r, j, none⟩ v) p r lo' st' c' h' code' hands' ∧ Fr (fun i => i = r) w (w.setCell ⟨r, j, none⟩ v) := by
  have fs : Fr (fun i => i = r) w (w.setCell ⟨r, j, none⟩ v) := (Fr.refl (fun i => i = r) w).setCell (p := ⟨r, j, none⟩) (fun _ => rfl) _
  have ts : ∀ i, i = r → ∀ cur t fz, w.heap[i]? = some (.cells cur t fz) → t = 53 := by
    intro i hi cur t fz e
    subst hi
    rw [row] at e
    simp only [Option.some.injEq, Obj.cells.injEq] at e
    exact e.2.1.symm
  refine ⟨⟨fs.heap box (fun e => ?_), ?_, hc.but fs (fun i hi cur t fz e => by rw [ts i hi cur t fz e]; decide), hh.but fs (fun i hi cur t fz e => by rw [ts i hi cur t fz e]; decide)⟩, fs⟩
  · have := ts _ e _ _ _ box
    simp at this
  · unfold World.setCell
    rw [Array.getElem?_modify, if_pos rfl, row]
    simp [hrow]

/-- One more instruction ahead. -/
theorem BdAt.addC {w w6 : World} {p r : Nat} {lo st : Int} {c h : Sv} {code : List (Int × Int)} {hands : List Hd} {v6 : Value} (T : BdAt w p r lo st c h code hands) (o6 : OwnG elIn w6 v6 ([(0, 0)] ++ code)) (s6 : Sp no (.slice (some ⟨w.heap.size, 0, none⟩) 1 1) (w.alloc (.cells #[.int .i64 0, .int .i64 0] 57)) v6 w6) :
    ∃ c' : Sv, v6 = .slice c'.a c'.n c'.c ∧ w6.heap[r]? = some (.cells #[.string ⟨#[109, 97, 105, 110]⟩, .slice none 0 0, .int .i64 0, .string ⟨#[]⟩, .int .i64 lo, .int .i64 st, .slice c.a c.n c.c, .slice h.a h.n h.c] 53 (0, 0)) ∧ BdAt (w6.setCell ⟨r, 6, none⟩ (.slice c'.a c'.n c'.c)) p r lo st c' h ([(0, 0)] ++ code) hands ∧ Fr (fun i => i = r) w (w6.setCell ⟨r, 6, none⟩ (.slice c'.a c'.n c'.c)) := by
  obtain ⟨o, cap, e6⟩ := o6.form
  have fa : Fr no w (w.alloc (.cells #[.int .i64 0, .int .i64 0] 57)) := (Fr.refl no w).alloc _ _
  have f6 : Fr no w w6 := fa.trans s6.1 (fun _ _ f => f) (fun i hi e => e.elim (fun f => f) (fun e => by simp only [Value.ownBlock, Option.some.injEq] at e; omega))
  subst e6
  have S := BdAt.set (c' := ⟨o, ([(0, 0)] ++ code).length, cap⟩) (h' := h) (lo' := lo) (st' := st) (f6.heap T.box (fun f => f)) (f6.heap T.row (fun f => f)) o6 (T.h.kept f6 (fun _ _ f => f)) 6 (.slice o ([(0, 0)] ++ code).length cap) rfl
  exact ⟨⟨o, ([(0, 0)] ++ code).length, cap⟩, rfl, f6.heap T.row (fun f => f), S.1, f6.trans S.2 (fun _ _ f => f.elim) (fun _ _ e => e)⟩

/-- One more handler. -/
theorem BdAt.addH {w w6 : World} {p r : Nat} {lo st : Int} {c h : Sv} {code : List (Int × Int)} {hands : List Hd} {v6 : Value} (T : BdAt w p r lo st c h code hands) (o6 : OwnG elHd w6 v6 (hands ++ [hdX])) (s6 : Sp no (.slice h.a h.n h.c) (w.alloc (.cells #[.int .i64 0, .int .i64 1, .int .i64 0, .int .i64 (-1), .int .i64 0] 59)) v6 w6) :
    ∃ h' : Sv, v6 = .slice h'.a h'.n h'.c ∧ w6.heap[r]? = some (.cells #[.string ⟨#[109, 97, 105, 110]⟩, .slice none 0 0, .int .i64 0, .string ⟨#[]⟩, .int .i64 lo, .int .i64 st, .slice c.a c.n c.c, .slice h.a h.n h.c] 53 (0, 0)) ∧ BdAt (w6.setCell ⟨r, 7, none⟩ (.slice h'.a h'.n h'.c)) p r lo st c h' code (hands ++ [hdX]) ∧ Fr (fun i => i = r ∨ (Value.slice h.a h.n h.c).ownBlock = some i) w (w6.setCell ⟨r, 7, none⟩ (.slice h'.a h'.n h'.c)) ∧
      (∀ i, (Value.slice h'.a h'.n h'.c).ownBlock = some i → w.heap.size ≤ i ∨ (Value.slice h.a h.n h.c).ownBlock = some i) := by
  obtain ⟨o, cap, e6⟩ := o6.form
  have fa : Fr no w (w.alloc (.cells #[.int .i64 0, .int .i64 1, .int .i64 0, .int .i64 (-1), .int .i64 0] 59)) := (Fr.refl no w).alloc _ _
  have f6 : Fr (fun i => (Value.slice h.a h.n h.c).ownBlock = some i) w w6 := fa.trans s6.1 (fun _ _ f => f.elim) (fun _ _ e => e.elim (fun f => f.elim) (fun e => e))
  have tg : ∀ i, (Value.slice h.a h.n h.c).ownBlock = some i → ∀ cur t fz, w.heap[i]? = some (.cells cur t fz) → t = 59 := by
    intro i hi cur t fz e
    obtain ⟨cur', e'⟩ := T.h.tag hi
    rw [e'] at e
    simp only [Option.some.injEq, Obj.cells.injEq] at e
    exact e.2.1.symm
  have nt : ∀ {i : Nat} {cur : Array Value} {t : TypeId} {fz : Nat × Nat}, w.heap[i]? = some (.cells cur t fz) → t ≠ 59 → ¬ (Value.slice h.a h.n h.c).ownBlock = some i := fun h1 h2 h3 => h2 (tg _ h3 _ _ _ h1)
  subst e6
  have S := BdAt.set (c' := c) (h' := ⟨o, (hands ++ [hdX]).length, cap⟩) (lo' := lo) (st' := st) (f6.heap T.box (nt T.box (by decide))) (f6.heap T.row (nt T.row (by decide))) (T.c.but f6 (fun i hi cur t fz e => by rw [tg i hi cur t fz e]; decide)) o6 7 (.slice o (hands ++ [hdX]).length cap) rfl
  refine ⟨⟨o, (hands ++ [hdX]).length, cap⟩, rfl, f6.heap T.row (nt T.row (by decide)), S.1, f6.trans S.2 (fun _ _ e => .inr e) (fun _ _ e => .inl e), fun i hi => ?_⟩
  rcases Nat.lt_or_ge i (w.alloc (.cells #[.int .i64 0, .int .i64 1, .int .i64 0, .int .i64 (-1), .int .i64 0] 59)).heap.size with hh | hh
  · exact .inr (s6.2 i hh hi)
  · exact .inl (Nat.le_trans fa.size hh)

/-- How long the slice in that cell is. -/
def lenAt (w : World) (r j : Nat) : Nat := match w.cell? ⟨r, j, none⟩ with
  | some (.slice _ n _) => n
  | _ => 0

set_option maxRecDepth 100000 in
set_option maxHeartbeats 4000000 in
theorem bounds_any (w : World) (T : Tb w) (R : Tr w) (a : Int) (ha0 : 0 ≤ a) (ha1 : a ≤ 255) (b : Int) (hb0 : 0 ≤ b) (hb1 : b ≤ 255) : Calls Tryz.prog 6 #[.int .u8 a, .int .u8 b] w fun e w' => e = .returned (.bool true) ∧ Fr no w w' := by
  have HTR : Hid (∀ w1, Fr no w w1 → Tb w1 ∧ Tr w1) := fun w1 f => ⟨T.kept f, R.kept f⟩
  have KN := known_any w T R
  clear T R
  go_enter Tryz.func6, Tryz.ntmps6
  go_wp2_with fail
  refine KN.mono ?_
  rintro x w1 ⟨rfl, f1⟩
  go_wp2_with fail
  refine (small_any w1).mono ?_
  rintro x w2 ⟨q, r, rfl, hqs, hrs, hne, hq, hr, f2⟩
  have fw2 := f1.new f2 (fun _ _ f => f)
  have hltq : q < w2.heap.size := by
    rcases Nat.lt_or_ge q w2.heap.size with h | h
    · exact h
    · rw [Array.getElem?_eq_none h] at hq; simp at hq
  have hltr : r < w2.heap.size := by
    rcases Nat.lt_or_ge r w2.heap.size with h | h
    · exact h
    · rw [Array.getElem?_eq_none h] at hr; simp at hr
  have b2 := heap_alloc_new w2 (.cells #[.string ⟨#[]⟩, .string ⟨#[]⟩, .slice none 0 0, .slice none 0 0, .slice none 0 0] 28)
  have s2 := size_alloc w2 (.cells #[.string ⟨#[]⟩, .string ⟨#[]⟩, .slice none 0 0, .slice none 0 0, .slice none 0 0] 28)
  have g2 : Fr no w2 (w2.alloc (.cells #[.string ⟨#[]⟩, .string ⟨#[]⟩, .slice none 0 0, .slice none 0 0, .slice none 0 0] 28)) := (Fr.refl no w2).alloc _ _
  generalize hW2 : w2.alloc (.cells #[.string ⟨#[]⟩, .string ⟨#[]⟩, .slice none 0 0, .slice none 0 0, .slice none 0 0] 28) = W2 at *
  have b2v : (World.setCell (World.setCell (World.setCell (World.setCell (World.setCell W2 ⟨w2.heap.size, 0, none⟩ (.string ⟨#[77, 97, 105, 110]⟩)) ⟨w2.heap.size, 1, none⟩ (.string ⟨#[]⟩)) ⟨w2.heap.size, 2, none⟩ (.slice none 0 0)) ⟨w2.heap.size, 3, none⟩ (.slice none 0 0)) ⟨w2.heap.size, 4, none⟩ (.slice (some ⟨r, 0, none⟩) 1 1)).heap[w2.heap.size]? = some (.cells #[.string ⟨#[77, 97, 105, 110]⟩, .string ⟨#[]⟩, .slice none 0 0, .slice none 0 0, .slice (some ⟨r, 0, none⟩) 1 1] 28 (0, 0)) := set_chain5 b2
  have g2v := fr_chain5 W2 w2.heap.size (.string ⟨#[77, 97, 105, 110]⟩) (.string ⟨#[]⟩) (.slice none 0 0) (.slice none 0 0) (.slice (some ⟨r, 0, none⟩) 1 1)
  generalize hV2 : (World.setCell (World.setCell (World.setCell (World.setCell (World.setCell W2 ⟨w2.heap.size, 0, none⟩ (.string ⟨#[77, 97, 105, 110]⟩)) ⟨w2.heap.size, 1, none⟩ (.string ⟨#[]⟩)) ⟨w2.heap.size, 2, none⟩ (.slice none 0 0)) ⟨w2.heap.size, 3, none⟩ (.slice none 0 0)) ⟨w2.heap.size, 4, none⟩ (.slice (some ⟨r, 0, none⟩) 1 1)) = V2 at *
  have g2' : Fr no w2 V2 := g2.trans g2v (fun _ _ f => f) (fun i hi e => by omega)
  obtain ⟨⟨c0, c1, c2, c3, c4⟩, z0, z1, z2, z3, z4⟩ := cells5z b2
  obtain ⟨⟨k0, k1, k2, k3, k4⟩, -⟩ := cells5z b2v
  have hr2 := g2'.heap hr (fun f => f)
  have hq2 := g2'.heap hq (fun f => f)
  obtain ⟨⟨m0, m1, m2, m3, m4, m5, m6, m7⟩, mz0, mz1, mz2, mz3, mz4, mz5, mz6, mz7⟩ := cells8z hr2
  have fw := fw2.new g2' (fun _ _ f => f)
  have hrw : w.heap.size ≤ r := Nat.le_trans f1.size hrs
  have HS : Hid (Fr no w V2 ∧ V2.heap[w2.heap.size]? = some (.cells #[.string ⟨#[77, 97, 105, 110]⟩, .string ⟨#[]⟩, .slice none 0 0, .slice none 0 0, .slice (some ⟨r, 0, none⟩) 1 1] 28 (0, 0)) ∧ V2.heap[r]? = some (.cells #[.string ⟨#[109, 97, 105, 110]⟩, .slice none 0 0, .int .i64 0, .string ⟨#[]⟩, .int .i64 1, .int .i64 0, .slice (some ⟨q, 0, none⟩) 1 1, .slice none 0 0] 53 (0, 0)) ∧ V2.heap[q]? = some (.cells #[.int .i64 33, .int .i64 0] 57 (0, 0))) := ⟨fw, b2v, hr2, hq2⟩
  clear fw hr2 hq2 g2 g2' g2v b2 b2v fw2 f1 f2 hq hr KN
  have hm4 : 0 ≤ a % 4 ∧ a % 4 < 4 := by omega
  have hm2 : 0 ≤ b % 2 ∧ b % 2 < 2 := by omega
  rcases (show b % 2 = 0 ∨ b % 2 = 1 by omega) with hbv | hbv
  · have hb2 : (b % 2 == 1) = false := by rw [hbv]; rfl
    clear hbv hm2
    rcases (show a % 4 = 0 ∨ a % 4 = 1 ∨ a % 4 = 2 ∨ a % 4 = 3 by omega) with hav | hav | hav | hav
    · have ha4 : (a % 4 == 0) = true := by rw [hav]; rfl
      have ha5 : (a % 4 == 1) = false := by rw [hav]; rfl
      have ha6 : (a % 4 == 2) = false := by rw [hav]; rfl
      clear hav hm4
      have S := BdAt.set (c := ⟨some ⟨q, 0, none⟩, 1, 1⟩) (h := ⟨none, 0, 0⟩) (c' := ⟨some ⟨q, 0, none⟩, 1, 1⟩) (h' := ⟨none, 0, 0⟩) (lo := 1) (st := 0) (lo' := 32) (st' := 0) HS.out.2.1 HS.out.2.2.1 (ownG_one okIn (33, 0) HS.out.2.2.2) (OwnG.nil elHd V2) 4 (.int .i64 32) rfl
      have fwS : Fr no w (V2.setCell ⟨r, 4, none⟩ (.int .i64 32)) := HS.out.1.trans S.2 (fun _ _ f => f) (fun i hi e => by omega)
      have C := check_any _ (HTR.out _ fwS).1 (HTR.out _ fwS).2 _ _ S.1.at (bd_fit _ _ _ _)
      rw [bd00] at C
      unfold ksV smK e0 at C
      simp only [] at C
      obtain ⟨⟨x0, x1, x2, x3, x4⟩, -⟩ := cells5z S.1.box
      clear S
      generalize hVS : V2.setCell ⟨r, 4, none⟩ (.int .i64 32) = VS at *
      go_wp2_with fail
      refine C.mono ?_
      rintro x w8 ⟨rfl, f8⟩
      go_wp2_with fail
      go_ret
      exact ⟨rfl, fwS.new f8 (fun _ _ f => f)⟩
    · have ha4 : (a % 4 == 0) = false := by rw [hav]; rfl
      have ha5 : (a % 4 == 1) = true := by rw [hav]; rfl
      have ha6 : (a % 4 == 2) = false := by rw [hav]; rfl
      clear hav hm4
      have S := BdAt.set (c := ⟨some ⟨q, 0, none⟩, 1, 1⟩) (h := ⟨none, 0, 0⟩) (c' := ⟨some ⟨q, 0, none⟩, 1, 1⟩) (h' := ⟨none, 0, 0⟩) (lo := 1) (st := 0) (lo' := 1) (st' := 64) HS.out.2.1 HS.out.2.2.1 (ownG_one okIn (33, 0) HS.out.2.2.2) (OwnG.nil elHd V2) 5 (.int .i64 64) rfl
      have fwS : Fr no w (V2.setCell ⟨r, 5, none⟩ (.int .i64 64)) := HS.out.1.trans S.2 (fun _ _ f => f) (fun i hi e => by omega)
      have C := check_any _ (HTR.out _ fwS).1 (HTR.out _ fwS).2 _ _ S.1.at (bd_fit _ _ _ _)
      rw [bd10] at C
      unfold ksV smK e0 at C
      simp only [] at C
      obtain ⟨⟨x0, x1, x2, x3, x4⟩, -⟩ := cells5z S.1.box
      clear S
      generalize hVS : V2.setCell ⟨r, 5, none⟩ (.int .i64 64) = VS at *
      go_wp2_with fail
      refine C.mono ?_
      rintro x w8 ⟨rfl, f8⟩
      go_wp2_with fail
      go_ret
      exact ⟨rfl, fwS.new f8 (fun _ _ f => f)⟩
    · have ha4 : (a % 4 == 0) = false := by rw [hav]; rfl
      have ha5 : (a % 4 == 1) = false := by rw [hav]; rfl
      have ha6 : (a % 4 == 2) = true := by rw [hav]; rfl
      clear hav hm4
      go_wp2_with fail
      clear hW2 hV2 c0 c1 c2 c3 c4 z0 z1 z2 z3 z4 k0 k1 k2 k3 k4 m0 m1 m2 m3 m4 m5 m6 m7 mz0 mz1 mz2 mz3 mz4 mz5 mz6 mz7
      go_loopw [61] (fun _ wr => ∃ (k : Nat) (c : Sv), BdAt wr w2.heap.size r 1 0 c ⟨none, 0, 0⟩ (List.replicate k (0, 0) ++ [(33, 0)]) [] ∧ k + 1 ≤ 200 ∧ Fr no w wr) (fun _ wr => 200 - lenAt wr r 6)
      case atStart => exact ⟨0, ⟨some ⟨q, 0, none⟩, 1, 1⟩, ⟨HS.out.2.1, HS.out.2.2.1, ownG_one okIn (33, 0) HS.out.2.2.2, OwnG.nil _ _⟩, by omega, HS.out.1⟩
      case round =>
        obtain ⟨k, ⟨ca, cn, cc⟩, T, hk, fw⟩ := hrel
        have hlen : (List.replicate k ((0 : Int), (0 : Int)) ++ [((33 : Int), (0 : Int))]).length = k + 1 := by simp
        obtain ⟨g, cap, hc⟩ := T.c.head (by simp)
        rw [hlen] at hc
        simp only [Value.slice.injEq] at hc
        obtain ⟨rfl, rfl, rfl⟩ := hc
        obtain ⟨⟨m0, m1, m2, m3, m4, m5, m6, m7⟩, -⟩ := cells8z T.row
        simp only [] at m6
        have HL : Hid (lenAt wr r 6 = k + 1) := by show _ = _; unfold lenAt; rw [m6]
        by_cases hend : k + 1 = 200
        · have hk' : k = 199 := by omega
          subst hk'
          have C := check_any wr (HTR.out wr fw).1 (HTR.out wr fw).2 _ _ T.at (bd_fit _ _ _ _)
          rw [bd20] at C
          unfold ksV smK e0 at C
          simp only [] at C
          obtain ⟨⟨x0, x1, x2, x3, x4⟩, -⟩ := cells5z T.box
          clear T HL
          go_wp2_with fail
          refine C.mono ?_
          rintro x w8 ⟨rfl, f8⟩
          go_wp2_with fail
          go_ret
          exact ⟨rfl, fw.new f8 (fun _ _ f => f)⟩
        · have hlt : k + 1 < 200 := by omega
          have fA : Fr no wr (wr.alloc (.cells #[.int .i64 0, .int .i64 0] 57)) := (Fr.refl no wr).alloc _ _
          have hown : OwnG elIn (wr.alloc (.cells #[.int .i64 0, .int .i64 0] 57)) (.slice (some ⟨wr.heap.size, 0, none⟩) 1 1) [(0, 0)] := ownG_one okIn (0, 0) (heap_alloc_new wr _)
          have hcA := T.c.kept fA (fun _ _ f => f)
          simp only [] at hcA
          have hsrc : Src Tryz.prog 2 50 (.slice (some ⟨g, 0, none⟩) (k + 1) cc) (List.replicate k ((0 : Int), (0 : Int)) ++ [(33, 0)]).length (cg elIn (List.replicate k (0, 0) ++ [(33, 0)])) (wr.alloc (.cells #[.int .i64 0, .int .i64 0] 57)) := by
            rw [← hlen] at hcA ⊢
            exact OwnG.src okIn hcA
          have ADD : Hid (∀ v6 w6, OwnG elIn w6 v6 ([(0, 0)] ++ (List.replicate k (0, 0) ++ [(33, 0)])) → Sp no (.slice (some ⟨wr.heap.size, 0, none⟩) 1 1) (wr.alloc (.cells #[.int .i64 0, .int .i64 0] 57)) v6 w6 → _) := fun v6 w6 o6 s6 => T.addC o6 s6
          have hbb : ([((0 : Int), (0 : Int))] : List (Int × Int)).length + (List.replicate k ((0 : Int), (0 : Int)) ++ [(33, 0)]).length ≤ 1000000 := by simp; omega
          have hrA := fA.heap T.row (fun f => f)
          obtain ⟨⟨n0, n1, n2, n3, n4, n5, n6, n7⟩, -⟩ := cells8z hrA
          simp only [] at n6
          clear T fA hcA hrA
          generalize hW5 : wr.alloc (.cells #[.int .i64 0, .int .i64 0] 57) = W5 at *
          go_wp2_with (at_builtin; refine wpList_apdG okIn W5 rfl rfl (.tmp 66) (.tmp 70) rfl _ [(0, 0)] rfl hown _ rfl (List.replicate k (0, 0) ++ [(33, 0)]) hsrc (by simp) hbb ?_; intro v6 w6 o6 s6; obtain ⟨c6, rfl, hb6, T6, F6⟩ := ADD.out v6 w6 o6 s6; clear o6 s6; obtain ⟨⟨g0, g1, g2, g3, g4, g5, g6, g7⟩, y0, y1, y2, y3, y4, y5, y6, y7⟩ := cells8z hb6; generalize hV6 : w6.setCell ⟨r, 6, none⟩ (.slice c6.a c6.n c6.c) = V6 at *; clear hb6)
          have h6 := (cells8z T6.row).1.2.2.2.2.2.2.1
          go_roundw
          case rel => exact ⟨k + 1, c6, by have : List.replicate (k + 1) ((0 : Int), (0 : Int)) ++ [(33, 0)] = [(0, 0)] ++ (List.replicate k (0, 0) ++ [(33, 0)]) := by (rw [List.replicate_succ]; rfl)
                                           rw [this]; exact T6, by omega, fw.trans F6 (fun _ _ f => f) (fun i hi e => by omega)⟩
          case measure =>
            have e6 : c6.n = k + 2 := by have := T6.c.len_eq; simp at this; omega
            have : lenAt V6 r 6 = k + 2 := by unfold lenAt; rw [h6]; exact e6
            rw [this, HL.out]
            omega
    · have ha4 : (a % 4 == 0) = false := by rw [hav]; rfl
      have ha5 : (a % 4 == 1) = false := by rw [hav]; rfl
      have ha6 : (a % 4 == 2) = false := by rw [hav]; rfl
      clear hav hm4
      go_wp2_with fail
      clear hW2 hV2 c0 c1 c2 c3 c4 z0 z1 z2 z3 z4 k0 k1 k2 k3 k4 m0 m1 m2 m3 m4 m5 m6 m7 mz0 mz1 mz2 mz3 mz4 mz5 mz6 mz7
      go_loopw [27] (fun _ wr => ∃ (k : Nat) (h : Sv), BdAt wr w2.heap.size r 1 0 ⟨some ⟨q, 0, none⟩, 1, 1⟩ h [(33, 0)] (List.replicate k hdX) ∧ k ≤ 16 ∧ Fr no w wr ∧ ∀ i, (Value.slice h.a h.n h.c).ownBlock = some i → w.heap.size ≤ i) (fun _ wr => 16 - lenAt wr r 7)
      case atStart => exact ⟨0, ⟨none, 0, 0⟩, ⟨HS.out.2.1, HS.out.2.2.1, ownG_one okIn (33, 0) HS.out.2.2.2, OwnG.nil _ _⟩, by omega, HS.out.1, fun i hi => by simp [Value.ownBlock] at hi⟩
      case round =>
        obtain ⟨k, ⟨ca, cn, cc⟩, T, hk, fw, hob⟩ := hrel
        obtain ⟨g, cap, hc⟩ := T.h.form
        rw [List.length_replicate] at hc
        simp only [Value.slice.injEq] at hc
        obtain ⟨rfl, rfl, rfl⟩ := hc
        simp only [] at hob
        obtain ⟨⟨m0, m1, m2, m3, m4, m5, m6, m7⟩, -⟩ := cells8z T.row
        simp only [] at m7 m6
        have HL : Hid (lenAt wr r 7 = cn) := by show _ = _; unfold lenAt; rw [m7]
        by_cases hend : cn = 16
        · subst hend
          have C := check_any wr (HTR.out wr fw).1 (HTR.out wr fw).2 _ _ T.at (bd_fit _ _ _ _)
          rw [bd30] at C
          unfold ksV smK e0 at C
          simp only [] at C
          obtain ⟨⟨x0, x1, x2, x3, x4⟩, -⟩ := cells5z T.box
          clear T HL
          go_wp2_with fail
          refine C.mono ?_
          rintro x w8 ⟨rfl, f8⟩
          go_wp2_with fail
          go_ret
          exact ⟨rfl, fw.new f8 (fun _ _ f => f)⟩
        · have hlt : cn < 16 := by omega
          have fA : Fr no wr (wr.alloc (.cells #[.int .i64 0, .int .i64 1, .int .i64 0, .int .i64 (-1), .int .i64 0] 59)) := (Fr.refl no wr).alloc _ _
          have hown := T.h.kept fA (fun _ _ f => f)
          simp only [] at hown
          have hsrc : Src Tryz.prog 5 51 (.slice (some ⟨wr.heap.size, 0, none⟩) 1 1) ([hdX] : List Hd).length (cg elHd [hdX]) (wr.alloc (.cells #[.int .i64 0, .int .i64 1, .int .i64 0, .int .i64 (-1), .int .i64 0] 59)) := srcG_one okHd wr hdX
          have ADD : Hid (∀ v6 w6, OwnG elHd w6 v6 (List.replicate cn hdX ++ [hdX]) → Sp no (.slice ca cn cc) (wr.alloc (.cells #[.int .i64 0, .int .i64 1, .int .i64 0, .int .i64 (-1), .int .i64 0] 59)) v6 w6 → _) := fun v6 w6 o6 s6 => T.addH o6 s6
          have hbb : (List.replicate cn hdX).length + ([hdX] : List Hd).length ≤ 1000000 := by simp; omega
          clear T fA
          generalize hW5 : wr.alloc (.cells #[.int .i64 0, .int .i64 1, .int .i64 0, .int .i64 (-1), .int .i64 0] 59) = W5 at *
          go_wp2_with (at_builtin; refine wpList_apdG okHd W5 rfl rfl (.tmp 34) (.tmp 36) rfl _ (List.replicate cn hdX) rfl hown _ rfl [hdX] hsrc (by simp) hbb ?_; intro v6 w6 o6 s6; obtain ⟨c6, rfl, hb6, T6, F6, hob6⟩ := ADD.out v6 w6 o6 s6; clear o6 s6; obtain ⟨⟨g0, g1, g2, g3, g4, g5, g6, g7⟩, y0, y1, y2, y3, y4, y5, y6, y7⟩ := cells8z hb6; generalize hV6 : w6.setCell ⟨r, 7, none⟩ (.slice c6.a c6.n c6.c) = V6 at *; clear hb6)
          have h7 := (cells8z T6.row).1.2.2.2.2.2.2.2
          have hS : ∀ i, (i = r ∨ (Value.slice ca cn cc).ownBlock = some i) → w.heap.size ≤ i := fun i e => e.elim (fun e => by omega) (fun e => hob i e)
          go_roundw
          case rel => exact ⟨cn + 1, c6, by have : List.replicate (cn + 1) hdX = List.replicate cn hdX ++ [hdX] := List.replicate_succ'
                                            rw [this]; exact T6, by omega, fw.trans F6 (fun _ _ f => f) (fun i hi e => by have := hS i e; omega), fun i hi => (hob6 i hi).elim (fun e => Nat.le_trans fw.size e) (fun e => hob i e)⟩
          case measure =>
            have e6 : c6.n = cn + 1 := by have := T6.h.len_eq; simp at this; omega
            have : lenAt V6 r 7 = cn + 1 := by unfold lenAt; rw [h7]; exact e6
            rw [this, HL.out]
            omega
  · have hb2 : (b % 2 == 1) = true := by rw [hbv]; rfl
    clear hbv hm2
    rcases (show a % 4 = 0 ∨ a % 4 = 1 ∨ a % 4 = 2 ∨ a % 4 = 3 by omega) with hav | hav | hav | hav
    · have ha4 : (a % 4 == 0) = true := by rw [hav]; rfl
      have ha5 : (a % 4 == 1) = false := by rw [hav]; rfl
      have ha6 : (a % 4 == 2) = false := by rw [hav]; rfl
      clear hav hm4
      have S := BdAt.set (c := ⟨some ⟨q, 0, none⟩, 1, 1⟩) (h := ⟨none, 0, 0⟩) (c' := ⟨some ⟨q, 0, none⟩, 1, 1⟩) (h' := ⟨none, 0, 0⟩) (lo := 1) (st := 0) (lo' := 33) (st' := 0) HS.out.2.1 HS.out.2.2.1 (ownG_one okIn (33, 0) HS.out.2.2.2) (OwnG.nil elHd V2) 4 (.int .i64 33) rfl
      have fwS : Fr no w (V2.setCell ⟨r, 4, none⟩ (.int .i64 33)) := HS.out.1.trans S.2 (fun _ _ f => f) (fun i hi e => by omega)
      have C := check_any _ (HTR.out _ fwS).1 (HTR.out _ fwS).2 _ _ S.1.at (bd_fit _ _ _ _)
      rw [bd01] at C
      unfold ksV smK e0 at C
      simp only [] at C
      obtain ⟨⟨x0, x1, x2, x3, x4⟩, -⟩ := cells5z S.1.box
      clear S
      generalize hVS : V2.setCell ⟨r, 4, none⟩ (.int .i64 33) = VS at *
      go_wp2_with fail
      refine C.mono ?_
      rintro x w8 ⟨rfl, f8⟩
      go_wp2_with fail
      go_ret
      exact ⟨rfl, fwS.new f8 (fun _ _ f => f)⟩
    · have ha4 : (a % 4 == 0) = false := by rw [hav]; rfl
      have ha5 : (a % 4 == 1) = true := by rw [hav]; rfl
      have ha6 : (a % 4 == 2) = false := by rw [hav]; rfl
      clear hav hm4
      have S := BdAt.set (c := ⟨some ⟨q, 0, none⟩, 1, 1⟩) (h := ⟨none, 0, 0⟩) (c' := ⟨some ⟨q, 0, none⟩, 1, 1⟩) (h' := ⟨none, 0, 0⟩) (lo := 1) (st := 0) (lo' := 1) (st' := 65) HS.out.2.1 HS.out.2.2.1 (ownG_one okIn (33, 0) HS.out.2.2.2) (OwnG.nil elHd V2) 5 (.int .i64 65) rfl
      have fwS : Fr no w (V2.setCell ⟨r, 5, none⟩ (.int .i64 65)) := HS.out.1.trans S.2 (fun _ _ f => f) (fun i hi e => by omega)
      have C := check_any _ (HTR.out _ fwS).1 (HTR.out _ fwS).2 _ _ S.1.at (bd_fit _ _ _ _)
      rw [bd11] at C
      unfold ksV smK e0 at C
      simp only [] at C
      obtain ⟨⟨x0, x1, x2, x3, x4⟩, -⟩ := cells5z S.1.box
      clear S
      generalize hVS : V2.setCell ⟨r, 5, none⟩ (.int .i64 65) = VS at *
      go_wp2_with fail
      refine C.mono ?_
      rintro x w8 ⟨rfl, f8⟩
      go_wp2_with fail
      go_ret
      exact ⟨rfl, fwS.new f8 (fun _ _ f => f)⟩
    · have ha4 : (a % 4 == 0) = false := by rw [hav]; rfl
      have ha5 : (a % 4 == 1) = false := by rw [hav]; rfl
      have ha6 : (a % 4 == 2) = true := by rw [hav]; rfl
      clear hav hm4
      go_wp2_with fail
      clear hW2 hV2 c0 c1 c2 c3 c4 z0 z1 z2 z3 z4 k0 k1 k2 k3 k4 m0 m1 m2 m3 m4 m5 m6 m7 mz0 mz1 mz2 mz3 mz4 mz5 mz6 mz7
      go_loopw [61] (fun _ wr => ∃ (k : Nat) (c : Sv), BdAt wr w2.heap.size r 1 0 c ⟨none, 0, 0⟩ (List.replicate k (0, 0) ++ [(33, 0)]) [] ∧ k + 1 ≤ 201 ∧ Fr no w wr) (fun _ wr => 201 - lenAt wr r 6)
      case atStart => exact ⟨0, ⟨some ⟨q, 0, none⟩, 1, 1⟩, ⟨HS.out.2.1, HS.out.2.2.1, ownG_one okIn (33, 0) HS.out.2.2.2, OwnG.nil _ _⟩, by omega, HS.out.1⟩
      case round =>
        obtain ⟨k, ⟨ca, cn, cc⟩, T, hk, fw⟩ := hrel
        have hlen : (List.replicate k ((0 : Int), (0 : Int)) ++ [((33 : Int), (0 : Int))]).length = k + 1 := by simp
        obtain ⟨g, cap, hc⟩ := T.c.head (by simp)
        rw [hlen] at hc
        simp only [Value.slice.injEq] at hc
        obtain ⟨rfl, rfl, rfl⟩ := hc
        obtain ⟨⟨m0, m1, m2, m3, m4, m5, m6, m7⟩, -⟩ := cells8z T.row
        simp only [] at m6
        have HL : Hid (lenAt wr r 6 = k + 1) := by show _ = _; unfold lenAt; rw [m6]
        by_cases hend : k + 1 = 201
        · have hk' : k = 200 := by omega
          subst hk'
          have C := check_any wr (HTR.out wr fw).1 (HTR.out wr fw).2 _ _ T.at (bd_fit _ _ _ _)
          rw [bd21] at C
          unfold ksV smK e0 at C
          simp only [] at C
          obtain ⟨⟨x0, x1, x2, x3, x4⟩, -⟩ := cells5z T.box
          clear T HL
          go_wp2_with fail
          refine C.mono ?_
          rintro x w8 ⟨rfl, f8⟩
          go_wp2_with fail
          go_ret
          exact ⟨rfl, fw.new f8 (fun _ _ f => f)⟩
        · have hlt : k + 1 < 201 := by omega
          have fA : Fr no wr (wr.alloc (.cells #[.int .i64 0, .int .i64 0] 57)) := (Fr.refl no wr).alloc _ _
          have hown : OwnG elIn (wr.alloc (.cells #[.int .i64 0, .int .i64 0] 57)) (.slice (some ⟨wr.heap.size, 0, none⟩) 1 1) [(0, 0)] := ownG_one okIn (0, 0) (heap_alloc_new wr _)
          have hcA := T.c.kept fA (fun _ _ f => f)
          simp only [] at hcA
          have hsrc : Src Tryz.prog 2 50 (.slice (some ⟨g, 0, none⟩) (k + 1) cc) (List.replicate k ((0 : Int), (0 : Int)) ++ [(33, 0)]).length (cg elIn (List.replicate k (0, 0) ++ [(33, 0)])) (wr.alloc (.cells #[.int .i64 0, .int .i64 0] 57)) := by
            rw [← hlen] at hcA ⊢
            exact OwnG.src okIn hcA
          have ADD : Hid (∀ v6 w6, OwnG elIn w6 v6 ([(0, 0)] ++ (List.replicate k (0, 0) ++ [(33, 0)])) → Sp no (.slice (some ⟨wr.heap.size, 0, none⟩) 1 1) (wr.alloc (.cells #[.int .i64 0, .int .i64 0] 57)) v6 w6 → _) := fun v6 w6 o6 s6 => T.addC o6 s6
          have hbb : ([((0 : Int), (0 : Int))] : List (Int × Int)).length + (List.replicate k ((0 : Int), (0 : Int)) ++ [(33, 0)]).length ≤ 1000000 := by simp; omega
          have hrA := fA.heap T.row (fun f => f)
          obtain ⟨⟨n0, n1, n2, n3, n4, n5, n6, n7⟩, -⟩ := cells8z hrA
          simp only [] at n6
          clear T fA hcA hrA
          generalize hW5 : wr.alloc (.cells #[.int .i64 0, .int .i64 0] 57) = W5 at *
          go_wp2_with (at_builtin; refine wpList_apdG okIn W5 rfl rfl (.tmp 66) (.tmp 70) rfl _ [(0, 0)] rfl hown _ rfl (List.replicate k (0, 0) ++ [(33, 0)]) hsrc (by simp) hbb ?_; intro v6 w6 o6 s6; obtain ⟨c6, rfl, hb6, T6, F6⟩ := ADD.out v6 w6 o6 s6; clear o6 s6; obtain ⟨⟨g0, g1, g2, g3, g4, g5, g6, g7⟩, y0, y1, y2, y3, y4, y5, y6, y7⟩ := cells8z hb6; generalize hV6 : w6.setCell ⟨r, 6, none⟩ (.slice c6.a c6.n c6.c) = V6 at *; clear hb6)
          have h6 := (cells8z T6.row).1.2.2.2.2.2.2.1
          go_roundw
          case rel => exact ⟨k + 1, c6, by have : List.replicate (k + 1) ((0 : Int), (0 : Int)) ++ [(33, 0)] = [(0, 0)] ++ (List.replicate k (0, 0) ++ [(33, 0)]) := by (rw [List.replicate_succ]; rfl)
                                           rw [this]; exact T6, by omega, fw.trans F6 (fun _ _ f => f) (fun i hi e => by omega)⟩
          case measure =>
            have e6 : c6.n = k + 2 := by have := T6.c.len_eq; simp at this; omega
            have : lenAt V6 r 6 = k + 2 := by unfold lenAt; rw [h6]; exact e6
            rw [this, HL.out]
            omega
    · have ha4 : (a % 4 == 0) = false := by rw [hav]; rfl
      have ha5 : (a % 4 == 1) = false := by rw [hav]; rfl
      have ha6 : (a % 4 == 2) = false := by rw [hav]; rfl
      clear hav hm4
      go_wp2_with fail
      clear hW2 hV2 c0 c1 c2 c3 c4 z0 z1 z2 z3 z4 k0 k1 k2 k3 k4 m0 m1 m2 m3 m4 m5 m6 m7 mz0 mz1 mz2 mz3 mz4 mz5 mz6 mz7
      go_loopw [27] (fun _ wr => ∃ (k : Nat) (h : Sv), BdAt wr w2.heap.size r 1 0 ⟨some ⟨q, 0, none⟩, 1, 1⟩ h [(33, 0)] (List.replicate k hdX) ∧ k ≤ 17 ∧ Fr no w wr ∧ ∀ i, (Value.slice h.a h.n h.c).ownBlock = some i → w.heap.size ≤ i) (fun _ wr => 17 - lenAt wr r 7)
      case atStart => exact ⟨0, ⟨none, 0, 0⟩, ⟨HS.out.2.1, HS.out.2.2.1, ownG_one okIn (33, 0) HS.out.2.2.2, OwnG.nil _ _⟩, by omega, HS.out.1, fun i hi => by simp [Value.ownBlock] at hi⟩
      case round =>
        obtain ⟨k, ⟨ca, cn, cc⟩, T, hk, fw, hob⟩ := hrel
        obtain ⟨g, cap, hc⟩ := T.h.form
        rw [List.length_replicate] at hc
        simp only [Value.slice.injEq] at hc
        obtain ⟨rfl, rfl, rfl⟩ := hc
        simp only [] at hob
        obtain ⟨⟨m0, m1, m2, m3, m4, m5, m6, m7⟩, -⟩ := cells8z T.row
        simp only [] at m7 m6
        have HL : Hid (lenAt wr r 7 = cn) := by show _ = _; unfold lenAt; rw [m7]
        by_cases hend : cn = 17
        · subst hend
          have C := check_any wr (HTR.out wr fw).1 (HTR.out wr fw).2 _ _ T.at (bd_fit _ _ _ _)
          rw [bd31] at C
          unfold ksV smK e0 at C
          simp only [] at C
          obtain ⟨⟨x0, x1, x2, x3, x4⟩, -⟩ := cells5z T.box
          clear T HL
          go_wp2_with fail
          refine C.mono ?_
          rintro x w8 ⟨rfl, f8⟩
          go_wp2_with fail
          go_ret
          exact ⟨rfl, fw.new f8 (fun _ _ f => f)⟩
        · have hlt : cn < 17 := by omega
          have fA : Fr no wr (wr.alloc (.cells #[.int .i64 0, .int .i64 1, .int .i64 0, .int .i64 (-1), .int .i64 0] 59)) := (Fr.refl no wr).alloc _ _
          have hown := T.h.kept fA (fun _ _ f => f)
          simp only [] at hown
          have hsrc : Src Tryz.prog 5 51 (.slice (some ⟨wr.heap.size, 0, none⟩) 1 1) ([hdX] : List Hd).length (cg elHd [hdX]) (wr.alloc (.cells #[.int .i64 0, .int .i64 1, .int .i64 0, .int .i64 (-1), .int .i64 0] 59)) := srcG_one okHd wr hdX
          have ADD : Hid (∀ v6 w6, OwnG elHd w6 v6 (List.replicate cn hdX ++ [hdX]) → Sp no (.slice ca cn cc) (wr.alloc (.cells #[.int .i64 0, .int .i64 1, .int .i64 0, .int .i64 (-1), .int .i64 0] 59)) v6 w6 → _) := fun v6 w6 o6 s6 => T.addH o6 s6
          have hbb : (List.replicate cn hdX).length + ([hdX] : List Hd).length ≤ 1000000 := by simp; omega
          clear T fA
          generalize hW5 : wr.alloc (.cells #[.int .i64 0, .int .i64 1, .int .i64 0, .int .i64 (-1), .int .i64 0] 59) = W5 at *
          go_wp2_with (at_builtin; refine wpList_apdG okHd W5 rfl rfl (.tmp 34) (.tmp 36) rfl _ (List.replicate cn hdX) rfl hown _ rfl [hdX] hsrc (by simp) hbb ?_; intro v6 w6 o6 s6; obtain ⟨c6, rfl, hb6, T6, F6, hob6⟩ := ADD.out v6 w6 o6 s6; clear o6 s6; obtain ⟨⟨g0, g1, g2, g3, g4, g5, g6, g7⟩, y0, y1, y2, y3, y4, y5, y6, y7⟩ := cells8z hb6; generalize hV6 : w6.setCell ⟨r, 7, none⟩ (.slice c6.a c6.n c6.c) = V6 at *; clear hb6)
          have h7 := (cells8z T6.row).1.2.2.2.2.2.2.2
          have hS : ∀ i, (i = r ∨ (Value.slice ca cn cc).ownBlock = some i) → w.heap.size ≤ i := fun i e => e.elim (fun e => by omega) (fun e => hob i e)
          go_roundw
          case rel => exact ⟨cn + 1, c6, by have : List.replicate (cn + 1) hdX = List.replicate cn hdX ++ [hdX] := List.replicate_succ'
                                            rw [this]; exact T6, by omega, fw.trans F6 (fun _ _ f => f) (fun i hi e => by have := hS i e; omega), fun i hi => (hob6 i hi).elim (fun e => Nat.le_trans fw.size e) (fun e => hob i e)⟩
          case measure =>
            have e6 : c6.n = cn + 1 := by have := T6.h.len_eq; simp at this; omega
            have : lenAt V6 r 7 = cn + 1 := by unfold lenAt; rw [h7]; exact e6
            rw [this, HL.out]
            omega
end Go.Proofs.YthncdbobjeeeaaaGreatDoor

