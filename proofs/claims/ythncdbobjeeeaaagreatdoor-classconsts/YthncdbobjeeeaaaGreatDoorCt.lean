/- Constants of each kind, and spoilt ones. -/
import Derived.Test.YthncdbobjeeeaaaGreatDoorTw
import Derived.Laws.Cover2
namespace Go.Proofs.YthncdbobjeeeaaaGreatDoor
open Go.ChangeShapes Go.WideShapes Go.ChangeAt Go.RowKit

def ctC (x : Cs) : Cl := ⟨⟨#[77, 97, 105, 110]⟩, e0, [x], [], [smM 33]⟩
def ctK (l r : Nat) : Ks := ⟨⟨#[77, 97, 105, 110]⟩, e0, ⟨some ⟨l, 0, none⟩, 1, 1⟩, ⟨none, 0, 0⟩, ⟨some ⟨r, 0, none⟩, 1, 1⟩⟩

theorem ct_ms (x : Cs) : eachE 12 (ckMt [x]) [smM 33] = 0 := rfl
theorem ct_chk (x : Cs) : chk (ctC x) = ckCs x := by
  have h1 : isName (ctC x).name = true ∧ ((ctC x).super = e0 ∨ isName (ctC x).super = true) := ⟨show isName ⟨#[77, 97, 105, 110]⟩ = true by decide, .inl rfl⟩
  have h2 : eachE 128 (fun x _ => ckCs x) (ctC x).pool = ckCs x := by simp only [ctC, eachE, firstE, List.length_cons, List.length_nil]; rw [if_neg (by omega)]; split; rfl; rename_i h; omega
  have h3 : eachE 8 ckFd (ctC x).fields = 0 := rfl
  unfold chk
  rw [if_pos h1, h2, h3]
  by_cases h : ckCs x = 0
  · rw [if_neg (fun e => e h), if_neg (by simp), h]
    exact ct_ms x
  · rw [if_pos h]

theorem ct_fit (x : Cs) (h : FitCs x) (hc : x.c.size ≤ 20) (hm : x.m.size ≤ 20) : FitK (ctC x) :=
  ⟨⟨fit_small _ (show 4 ≤ 1000 by decide), fit_small _ (show 0 ≤ 1000 by decide), fun y hy => by simp [ctC] at hy; subst hy; exact ⟨fit_small _ (by omega), fit_small _ (by omega)⟩, fun y hy => by simp [ctC] at hy,
    fun m h => by simp [ctC] at h; subst h; exact ⟨fit_small _ (show 4 ≤ 1000 by decide), fit_small _ (show 0 ≤ 1000 by decide), fun t ht => by simp [smM] at ht⟩⟩, fun y hy => by simp [ctC] at hy; subst hy; exact h⟩

theorem ctc_enc (x : Cs) : enCl (ctC x) = ([76, 79, 79, 77, 1] ++ enTx ⟨#[77, 97, 105, 110]⟩ ++ enTx e0 ++ enc 1) ++ enCs x ++ (enL enFd [] ++ enL enMt [smM 33]) := by
  have : enCl (ctC x) = [76, 79, 79, 77, 1] ++ (enTx ⟨#[77, 97, 105, 110]⟩ ++ (enTx e0 ++ (enL enCs [x] ++ (enL enFd [] ++ enL enMt [smM 33])))) := rfl
  rw [this]
  simp [enL]

theorem enCs_by (x : Cs) (hk : 0 ≤ x.k ∧ x.k ≤ 255) : ∀ c ∈ enCs x, c < 256 := by
  have ht : ∀ s, ∀ c ∈ enTx s, c < 256 := fun s => bytes_append (bytes_enc _) (nl_lt s)
  unfold enCs
  intro c hc
  rcases List.mem_cons.1 hc with rfl | hc
  · omega
  · revert hc
    split
    · exact bytes_enc _ c
    · split
      · exact bytes_append (le_byte _ _) (le_byte _ _) c
      · split
        · exact ht _ c
        · split
          · exact bytes_append (ht _) (ht _) c
          · intro hc; simp at hc

theorem ct_by (x : Cs) (hk : 0 ≤ x.k ∧ x.k ≤ 255) : ∀ c ∈ enCl (ctC x), c < 256 := by
  rw [ctc_enc]
  exact bytes_append (bytes_append (by decide) (enCs_by x hk)) (by decide)

theorem ct_len (x : Cs) (h : VCs x) : (enCl (ctC x)).length ≤ 200 := by
  rw [ctc_enc]
  have := enCs_len x h
  simp only [List.length_append]
  have h1 : ([76, 79, 79, 77, 1] ++ enTx ⟨#[77, 97, 105, 110]⟩ ++ enTx e0 ++ enc 1).length = 12 := by decide
  have h2 : (enL enFd [] ++ enL enMt [smM 33]).length = 15 := by decide
  simp only [List.length_append] at h1 h2
  omega

/-- The class with one constant. -/
theorem ct_at {w : World} {l q r : Nat} {x : Cs} (hl : w.heap[l]? = some (.cells #[.int .i64 x.k, .int .i64 x.n, .complex .f64 x.re x.im, .string x.c, .string x.m] 39 (0, 0))) (hq : w.heap[q]? = some (.cells #[.int .i64 33, .int .i64 0] 57 (0, 0))) (hr : w.heap[r]? = some (.cells #[.string ⟨#[109, 97, 105, 110]⟩, .slice none 0 0, .int .i64 0, .string ⟨#[]⟩, .int .i64 1, .int .i64 0, .slice (some ⟨q, 0, none⟩) 1 1, .slice none 0 0] 53 (0, 0))) : ClAt w (ctK l r) (ctC x) := by
  have S := sm_at hq hr
  refine ⟨rfl, rfl, show SlG elCs w (.slice (some ⟨l, 0, none⟩) 1 1) [x] from slG_one hl x (fun j u hj => ?_), S.f, S.m⟩
  rw [← hj]
  match j with
  | 0 => rfl
  | 1 => rfl
  | 2 => rfl
  | 3 => rfl
  | 4 => rfl
  | n + 5 => simp [elCs, csC]

theorem tmod100 (n : Int) : -99 ≤ n.tmod 100 ∧ n.tmod 100 ≤ 99 := by
  have h1 := Int.tmod_lt_of_pos n (show (0 : Int) < 100 by decide)
  have h2 := Int.lt_tmod_of_pos n (show (0 : Int) < 100 by decide)
  omega

theorem f100 : ∀ m : Int, -99 ≤ m → m ≤ 99 → floatOfInt .f64 m < 2 ^ 64 := by
  have key : ∀ d : Fin 199, floatOfInt .f64 ((d.val : Int) - 99) < 2 ^ 64 := by decide +kernel
  intro m h1 h2
  have := key ⟨(m + 99).toNat, by omega⟩
  simp only [] at this
  rwa [show (((m + 99).toNat : Nat) : Int) - 99 = m by omega] at this


theorem ct_fitC (x : Cs) (hc : x.c.size ≤ 20) (hm : x.m.size ≤ 20) : FitC (ctC x) :=
  ⟨fit_small _ (show 4 ≤ 1000 by decide), fit_small _ (show 0 ≤ 1000 by decide), fun y hy => by simp [ctC] at hy; subst hy; exact ⟨fit_small _ (by omega), fit_small _ (by omega)⟩, fun y hy => by simp [ctC] at hy,
    fun m h => by simp [ctC] at h; subst h; exact ⟨fit_small _ (show 4 ≤ 1000 by decide), fit_small _ (show 0 ≤ 1000 by decide), fun t ht => by simp [smM] at ht⟩⟩
theorem ct_v (x : Cs) (h : ckCs x = 0) : VCs x := (vcl (ctC x) (by rw [ct_chk]; exact h)).pool x (by simp [ctC])
theorem ct_ec (x : Cs) (h : ckCs x = 0) : ecE (ctC x) = 0 ∧ ecB (ctC x) = enCl (ctC x) := by
  have hl := ct_len x (ct_v x h)
  have hc : chk (ctC x) = 0 := by rw [ct_chk]; exact h
  exact ⟨by unfold ecE; rw [if_pos hc, if_neg (by omega)], by unfold ecB; rw [if_pos ⟨hc, by omega⟩]⟩
theorem ct_dec (x : Cs) (h : ckCs x = 0) (hf : FitK (ctC x)) : dcE (enCl (ctC x)) = 0 ∧ dcC (enCl (ctC x)) = ctC x :=
  dec_compl _ (by rw [ct_chk]; exact h) hf (by have := ct_len x (ct_v x h); omega)
theorem ltHeap {w : World} {i : Nat} {o : Obj} (h : w.heap[i]? = some o) : i < w.heap.size := by
  rcases Nat.lt_or_ge i w.heap.size with h' | h'
  · exact h'
  · rw [Array.getElem?_eq_none h'] at h; simp at h

set_option maxRecDepth 100000 in
set_option maxHeartbeats 8000000 in
theorem consts1 (w : World) (T : Tb w) (R : Tr w) (a : Int) (ha0 : 0 ≤ a) (ha1 : a ≤ 255) (n : Int) (hn0 : -9223372036854775808 ≤ n) (hn1 : n ≤ 9223372036854775807) (b : Int) (hb0 : 0 ≤ b) (hb1 : b ≤ 255) (hav : a % 5 = 0) : Calls Tryz.prog 4 #[.int .u8 a, .int .i64 n, .int .u8 b] w fun e w' => e = .returned (.bool true) ∧ Fr no w w' := by
  have hstc := run_store_cx
  have HTR : Hid (∀ w1, Fr no w w1 → Tb w1 ∧ Tr w1) := fun w1 f => ⟨T.kept f, R.kept f⟩
  have KN := known_any w T R
  clear T R
  go_enter Tryz.func4, Tryz.ntmps4
  go_wp2_with fail
  refine KN.mono ?_
  rintro x w1 ⟨rfl, f1⟩
  go_wp2_with fail
  refine (small_any w1).mono ?_
  rintro x w2 ⟨q, r, rfl, hqs, hrs, hne, hq, hr, f2⟩
  have fw2 := f1.new f2 (fun _ _ f => f)
  have hltq : q < w2.heap.size := ltHeap hq
  have hltr : r < w2.heap.size := ltHeap hr
  have b2 := heap_alloc_new w2 (.cells #[.string ⟨#[]⟩, .string ⟨#[]⟩, .slice none 0 0, .slice none 0 0, .slice none 0 0] 28)
  have s2 := size_alloc w2 (.cells #[.string ⟨#[]⟩, .string ⟨#[]⟩, .slice none 0 0, .slice none 0 0, .slice none 0 0] 28)
  have g2 : Fr no w2 (w2.alloc (.cells #[.string ⟨#[]⟩, .string ⟨#[]⟩, .slice none 0 0, .slice none 0 0, .slice none 0 0] 28)) := (Fr.refl no w2).alloc _ _
  generalize hW2 : w2.alloc (.cells #[.string ⟨#[]⟩, .string ⟨#[]⟩, .slice none 0 0, .slice none 0 0, .slice none 0 0] 28) = W2 at *
  have b2v : (World.setCell (World.setCell (World.setCell (World.setCell (World.setCell W2 ⟨w2.heap.size, 0, none⟩ (.string ⟨#[77, 97, 105, 110]⟩)) ⟨w2.heap.size, 1, none⟩ (.string ⟨#[]⟩)) ⟨w2.heap.size, 2, none⟩ (.slice none 0 0)) ⟨w2.heap.size, 3, none⟩ (.slice none 0 0)) ⟨w2.heap.size, 4, none⟩ (.slice (some ⟨r, 0, none⟩) 1 1)).heap[w2.heap.size]? = some (.cells #[.string ⟨#[77, 97, 105, 110]⟩, .string ⟨#[]⟩, .slice none 0 0, .slice none 0 0, .slice (some ⟨r, 0, none⟩) 1 1] 28 (0, 0)) := set_chain5 b2
  have g2v := fr_chain5 W2 w2.heap.size (.string ⟨#[77, 97, 105, 110]⟩) (.string ⟨#[]⟩) (.slice none 0 0) (.slice none 0 0) (.slice (some ⟨r, 0, none⟩) 1 1)
  have s2v : (World.setCell (World.setCell (World.setCell (World.setCell (World.setCell W2 ⟨w2.heap.size, 0, none⟩ (.string ⟨#[77, 97, 105, 110]⟩)) ⟨w2.heap.size, 1, none⟩ (.string ⟨#[]⟩)) ⟨w2.heap.size, 2, none⟩ (.slice none 0 0)) ⟨w2.heap.size, 3, none⟩ (.slice none 0 0)) ⟨w2.heap.size, 4, none⟩ (.slice (some ⟨r, 0, none⟩) 1 1)).heap.size = w2.heap.size + 1 := by rw [← s2]; simp
  generalize hV2 : (World.setCell (World.setCell (World.setCell (World.setCell (World.setCell W2 ⟨w2.heap.size, 0, none⟩ (.string ⟨#[77, 97, 105, 110]⟩)) ⟨w2.heap.size, 1, none⟩ (.string ⟨#[]⟩)) ⟨w2.heap.size, 2, none⟩ (.slice none 0 0)) ⟨w2.heap.size, 3, none⟩ (.slice none 0 0)) ⟨w2.heap.size, 4, none⟩ (.slice (some ⟨r, 0, none⟩) 1 1)) = V2 at *
  have g2' : Fr no w2 V2 := g2.trans g2v (fun _ _ f => f) (fun i hi e => by omega)
  obtain ⟨⟨c0, c1, c2, c3, c4⟩, z0, z1, z2, z3, z4⟩ := cells5z b2
  have fw := fw2.new g2' (fun _ _ f => f)
  have HS : Hid (Fr no w V2 ∧ V2.heap[w2.heap.size]? = some (.cells #[.string ⟨#[77, 97, 105, 110]⟩, .string ⟨#[]⟩, .slice none 0 0, .slice none 0 0, .slice (some ⟨r, 0, none⟩) 1 1] 28 (0, 0)) ∧ V2.heap[r]? = some (.cells #[.string ⟨#[109, 97, 105, 110]⟩, .slice none 0 0, .int .i64 0, .string ⟨#[]⟩, .int .i64 1, .int .i64 0, .slice (some ⟨q, 0, none⟩) 1 1, .slice none 0 0] 53 (0, 0)) ∧ V2.heap[q]? = some (.cells #[.int .i64 33, .int .i64 0] 57 (0, 0))) := ⟨fw, b2v, g2'.heap hr (fun f => f), g2'.heap hq (fun f => f)⟩
  have hPw : w.heap.size ≤ w2.heap.size := fw2.size
  clear fw g2 g2' g2v b2 b2v fw2 f1 f2 hq hr KN hqs hrs
  have b3 := heap_alloc_new V2 (.cells #[.int .i64 0, .int .i64 0, .complex .f64 0 0, .string ⟨#[]⟩, .string ⟨#[]⟩] 39)
  have s3 := size_alloc V2 (.cells #[.int .i64 0, .int .i64 0, .complex .f64 0 0, .string ⟨#[]⟩, .string ⟨#[]⟩] 39)
  have g3 : Fr no V2 (V2.alloc (.cells #[.int .i64 0, .int .i64 0, .complex .f64 0 0, .string ⟨#[]⟩, .string ⟨#[]⟩] 39)) := (Fr.refl no V2).alloc _ _
  rw [s2v] at b3 s3
  generalize hW3 : V2.alloc (.cells #[.int .i64 0, .int .i64 0, .complex .f64 0 0, .string ⟨#[]⟩, .string ⟨#[]⟩] 39) = W3 at *
  obtain ⟨⟨y0, y1, y2, y3, y4⟩, yz0, yz1, yz2, yz3, yz4⟩ := cells5z b3
  have b3v : (World.setCell (World.setCell (World.setCell (World.setCell (World.setCell W3 ⟨w2.heap.size + 1, 0, none⟩ (.int .i64 1)) ⟨w2.heap.size + 1, 1, none⟩ (.int .i64 0)) ⟨w2.heap.size + 1, 2, none⟩ (.complex .f64 0 0)) ⟨w2.heap.size + 1, 3, none⟩ (.string ⟨#[]⟩)) ⟨w2.heap.size + 1, 4, none⟩ (.string ⟨#[]⟩)).heap[w2.heap.size + 1]? = some (.cells #[.int .i64 1, .int .i64 0, .complex .f64 0 0, .string ⟨#[]⟩, .string ⟨#[]⟩] 39 (0, 0)) := set_chain5 b3
  have g3v := fr_chain5 W3 (w2.heap.size + 1) (.int .i64 1) (.int .i64 0) (.complex .f64 0 0) (.string ⟨#[]⟩) (.string ⟨#[]⟩)
  have s3v : (World.setCell (World.setCell (World.setCell (World.setCell (World.setCell W3 ⟨w2.heap.size + 1, 0, none⟩ (.int .i64 1)) ⟨w2.heap.size + 1, 1, none⟩ (.int .i64 0)) ⟨w2.heap.size + 1, 2, none⟩ (.complex .f64 0 0)) ⟨w2.heap.size + 1, 3, none⟩ (.string ⟨#[]⟩)) ⟨w2.heap.size + 1, 4, none⟩ (.string ⟨#[]⟩)).heap.size = w2.heap.size + 1 + 1 := by rw [← s3]; simp
  generalize hV3 : (World.setCell (World.setCell (World.setCell (World.setCell (World.setCell W3 ⟨w2.heap.size + 1, 0, none⟩ (.int .i64 1)) ⟨w2.heap.size + 1, 1, none⟩ (.int .i64 0)) ⟨w2.heap.size + 1, 2, none⟩ (.complex .f64 0 0)) ⟨w2.heap.size + 1, 3, none⟩ (.string ⟨#[]⟩)) ⟨w2.heap.size + 1, 4, none⟩ (.string ⟨#[]⟩)) = V3 at *
  have g3' : Fr no V2 V3 := g3.trans g3v (fun _ _ f => f) (fun i hi e => by omega)
  obtain ⟨⟨e0', e1', e2', e3', e4'⟩, ez0, ez1, ez2, ez3, ez4⟩ := cells5z b3v
  have b4 : (World.setCell V3 ⟨w2.heap.size + 1, 1, none⟩ (.int .i64 n)).heap[w2.heap.size + 1]? = some (.cells #[.int .i64 1, .int .i64 n, .complex .f64 0 0, .string ⟨#[]⟩, .string ⟨#[]⟩] 39 (0, 0)) := by
    have hs0 : (World.setCell V3 ⟨w2.heap.size + 1, 1, none⟩ (.int .i64 n)).heap[w2.heap.size + 1]? = some (.cells #[.int .i64 1, .int .i64 n, .complex .f64 0 0, .string ⟨#[]⟩, .string ⟨#[]⟩] 39 (0, 0)) := by
      unfold World.setCell
      rw [Array.getElem?_modify, if_pos rfl, b3v]
      rfl
    exact hs0
  have g4 : Fr (fun k => k = w2.heap.size + 1) V3 (World.setCell V3 ⟨w2.heap.size + 1, 1, none⟩ (.int .i64 n)) := ((Fr.refl (fun k => k = w2.heap.size + 1) V3).setCell (p := ⟨w2.heap.size + 1, 1, none⟩) (fun _ => rfl) (.int .i64 n))
  have s4 : (World.setCell V3 ⟨w2.heap.size + 1, 1, none⟩ (.int .i64 n)).heap.size = w2.heap.size + 1 + 1 := by rw [← s3v]; simp
  generalize hV4 : (World.setCell V3 ⟨w2.heap.size + 1, 1, none⟩ (.int .i64 n)) = V4 at *
  have g4' : Fr no V2 V4 := g3'.trans g4 (fun _ _ f => f) (fun i hi e => by omega)
  obtain ⟨⟨h0, h1, h2, h3, h4⟩, -⟩ := cells5z b4
  have b5 := heap_alloc_new V4 (.cells #[.int .i64 1, .int .i64 n, .complex .f64 0 0, .string ⟨#[]⟩, .string ⟨#[]⟩] 39)
  have g5 : Fr no V4 (V4.alloc (.cells #[.int .i64 1, .int .i64 n, .complex .f64 0 0, .string ⟨#[]⟩, .string ⟨#[]⟩] 39)) := (Fr.refl no V4).alloc _ _
  rw [s4] at b5
  generalize hW5 : V4.alloc (.cells #[.int .i64 1, .int .i64 n, .complex .f64 0 0, .string ⟨#[]⟩, .string ⟨#[]⟩] 39) = W5 at *
  have bx5 := g5.heap (g4'.heap HS.out.2.1 (fun f => f)) (fun f => f)
  obtain ⟨⟨i0, i1, i2, i3, i4⟩, iz0, iz1, iz2, iz3, iz4⟩ := cells5z bx5
  have g6 : Fr (fun k => k = w2.heap.size) W5 (World.setCell W5 ⟨w2.heap.size, 2, none⟩ (.slice (some ⟨w2.heap.size + 1 + 1, 0, none⟩) 1 1)) := (Fr.refl (fun k => k = w2.heap.size) W5).setCell (p := ⟨w2.heap.size, 2, none⟩) (fun _ => rfl) _
  have bx6 : (World.setCell W5 ⟨w2.heap.size, 2, none⟩ (.slice (some ⟨w2.heap.size + 1 + 1, 0, none⟩) 1 1)).heap[w2.heap.size]? = some (.cells #[.string ⟨#[77, 97, 105, 110]⟩, .string ⟨#[]⟩, .slice (some ⟨w2.heap.size + 1 + 1, 0, none⟩) 1 1, .slice none 0 0, .slice (some ⟨r, 0, none⟩) 1 1] 28 (0, 0)) := by
    unfold World.setCell
    rw [Array.getElem?_modify, if_pos rfl, bx5]
    rfl
  generalize hV6 : World.setCell W5 ⟨w2.heap.size, 2, none⟩ (.slice (some ⟨w2.heap.size + 1 + 1, 0, none⟩) 1 1) = V6 at *
  obtain ⟨⟨j0, j1, j2, j3, j4⟩, -⟩ := cells5z bx6
  have f26 : Fr (fun k => k = w2.heap.size) V2 V6 := (g4'.new g5 (fun _ _ f => f)).trans g6 (fun _ _ f => f.elim) (fun _ _ e => e)
  have hck : ckCs (⟨1, n, 0, 0, ⟨#[]⟩, ⟨#[]⟩⟩ : Cs) = 0 := by simp [ckCs, e0]
  have hfitx : FitK (ctC (⟨1, n, 0, 0, ⟨#[]⟩, ⟨#[]⟩⟩ : Cs)) := ct_fit _ ⟨hn0, hn1, show (0 : Nat) < 2 ^ 64 by decide, show (0 : Nat) < 2 ^ 64 by decide⟩ (show 0 ≤ 20 by decide) (show 0 ≤ 20 by decide)
  have HV6 : Hid (Fr no w V6 ∧ V6.heap[w2.heap.size + 1]? = some (.cells #[.int .i64 1, .int .i64 n, .complex .f64 0 0, .string ⟨#[]⟩, .string ⟨#[]⟩] 39 (0, 0)) ∧ V6.heap[w2.heap.size]? = some (.cells #[.string ⟨#[77, 97, 105, 110]⟩, .string ⟨#[]⟩, .slice (some ⟨w2.heap.size + 1 + 1, 0, none⟩) 1 1, .slice none 0 0, .slice (some ⟨r, 0, none⟩) 1 1] 28 (0, 0)) ∧ V6.heap[q]? = some (.cells #[.int .i64 33, .int .i64 0] 57 (0, 0)) ∧ V6.heap[r]? = some (.cells #[.string ⟨#[109, 97, 105, 110]⟩, .slice none 0 0, .int .i64 0, .string ⟨#[]⟩, .int .i64 1, .int .i64 0, .slice (some ⟨q, 0, none⟩) 1 1, .slice none 0 0] 53 (0, 0)) ∧ ClAt V6 (ctK (w2.heap.size + 1 + 1) r) (ctC (⟨1, n, 0, 0, ⟨#[]⟩, ⟨#[]⟩⟩ : Cs))) :=
    have h1 := f26.heap HS.out.2.2.2 (fun e => by omega)
    have h2 := f26.heap HS.out.2.2.1 (fun e => by omega)
    ⟨HS.out.1.trans f26 (fun _ _ f => f) (fun i hi e => by omega), g6.heap (g5.heap b4 (fun f => f)) (fun e => by omega), bx6, h1, h2, ct_at (x := (⟨1, n, 0, 0, ⟨#[]⟩, ⟨#[]⟩⟩ : Cs)) (g6.heap b5 (fun e => by omega)) h1 h2⟩
  have E := encode_any V6 (HTR.out V6 HV6.out.1).1 (HTR.out V6 HV6.out.1).2 _ _ HV6.out.2.2.2.2.2 hfitx
  rw [(ct_ec _ hck).1, (ct_ec _ hck).2] at E
  unfold ksV ctK e0 at E
  simp only [] at E
  have HC : Hid (ckCs (⟨1, n, 0, 0, ⟨#[]⟩, ⟨#[]⟩⟩ : Cs) = 0 ∧ FitK (ctC (⟨1, n, 0, 0, ⟨#[]⟩, ⟨#[]⟩⟩ : Cs))) := ⟨hck, hfitx⟩
  clear hck hfitx f26 bx6 g6 bx5 g5 b5 g4' g4 b4 g3' g3v b3v
  go_wp2_with fail
  clear s2 s2v s3 s3v s4 hW2 hV2 c0 c1 c2 c3 c4 z0 z1 z2 z3 z4 hW3 hV3 hV4 hW5 hV6 y0 y1 y2 y3 y4 yz0 yz1 yz2 yz3 yz4 e0' e1' e2' e3' e4' ez0 ez1 ez2 ez3 ez4 h0 h1 h2 h3 h4 i0 i1 i2 i3 i4 iz0 iz1 iz2 iz3 iz4 j0 j1 j2 j3 j4
  refine E.mono ?_
  rintro x w6 ⟨v6, rfl, o6, f6⟩
  clear E
  have fw6 := HV6.out.1.new f6 (fun _ _ f => f)
  have D := decode_any w6 (HTR.out w6 fw6).1 (HTR.out w6 fw6).2 v6 _ o6.sl (ct_by _ ⟨show (0 : Int) ≤ 1 by decide, show (1 : Int) ≤ 255 by decide⟩) (Nat.le_trans (ct_len _ (ct_v _ HC.out.1)) (by decide))
  rw [(ct_dec _ HC.out.1 HC.out.2).1, (ct_dec _ HC.out.1 HC.out.2).2] at D
  obtain ⟨va, vl, vc, ev⟩ := o6.form
  subst ev
  clear o6
  go_wp2_with fail
  refine D.mono ?_
  rintro x w7 ⟨⟨kn, ks, kp, kf, km⟩, rfl, hcl, f7⟩
  clear D
  have b7 := heap_alloc_new w7 (.cells #[.string ⟨#[]⟩, .string ⟨#[]⟩, .slice none 0 0, .slice none 0 0, .slice none 0 0] 28)
  have s7 := size_alloc w7 (.cells #[.string ⟨#[]⟩, .string ⟨#[]⟩, .slice none 0 0, .slice none 0 0, .slice none 0 0] 28)
  have g7 : Fr no w7 (w7.alloc (.cells #[.string ⟨#[]⟩, .string ⟨#[]⟩, .slice none 0 0, .slice none 0 0, .slice none 0 0] 28)) := (Fr.refl no w7).alloc _ _
  generalize hW7 : w7.alloc (.cells #[.string ⟨#[]⟩, .string ⟨#[]⟩, .slice none 0 0, .slice none 0 0, .slice none 0 0] 28) = W7 at *
  have b7v : (World.setCell (World.setCell (World.setCell (World.setCell (World.setCell W7 ⟨w7.heap.size, 0, none⟩ (.string kn)) ⟨w7.heap.size, 1, none⟩ (.string ks)) ⟨w7.heap.size, 2, none⟩ (.slice kp.a kp.n kp.c)) ⟨w7.heap.size, 3, none⟩ (.slice kf.a kf.n kf.c)) ⟨w7.heap.size, 4, none⟩ (.slice km.a km.n km.c)).heap[w7.heap.size]? = some (.cells #[.string kn, .string ks, .slice kp.a kp.n kp.c, .slice kf.a kf.n kf.c, .slice km.a km.n km.c] 28 (0, 0)) := set_chain5 b7
  have g7v := fr_chain5 W7 w7.heap.size (.string kn) (.string ks) (.slice kp.a kp.n kp.c) (.slice kf.a kf.n kf.c) (.slice km.a km.n km.c)
  generalize hV7 : (World.setCell (World.setCell (World.setCell (World.setCell (World.setCell W7 ⟨w7.heap.size, 0, none⟩ (.string kn)) ⟨w7.heap.size, 1, none⟩ (.string ks)) ⟨w7.heap.size, 2, none⟩ (.slice kp.a kp.n kp.c)) ⟨w7.heap.size, 3, none⟩ (.slice kf.a kf.n kf.c)) ⟨w7.heap.size, 4, none⟩ (.slice km.a km.n km.c)) = V7 at *
  have g7' : Fr no w7 V7 := g7.trans g7v (fun _ _ f => f) (fun i hi e => by omega)
  obtain ⟨⟨c0, c1, c2, c3, c4⟩, z0, z1, z2, z3, z4⟩ := cells5z b7
  obtain ⟨⟨d0, d1, d2, d3, d4⟩, -⟩ := cells5z b7v
  have f67 : Fr no V6 V7 := (f6.new f7 (fun _ _ f => f)).new g7' (fun _ _ f => f)
  obtain ⟨⟨p0, p1, p2, p3, p4⟩, -⟩ := cells5z (f67.heap HV6.out.2.2.1 (fun f => f))
  have S := same_any V7 (ctK (w2.heap.size + 1 + 1) r) ⟨kn, ks, kp, kf, km⟩ _ (HV6.out.2.2.2.2.2.kept f67) (hcl.kept g7')
  unfold ksV ctK e0 at S
  simp only [] at S
  have HF67 : Hid (Fr no V6 V7) := f67
  unfold ksV
  simp only []
  clear f67 g7' g7v b7v g7 b7 hcl f7 f6 fw6
  go_wp2_with fail
  clear hW7 hV7 c0 c1 c2 c3 c4 z0 z1 z2 z3 z4 d0 d1 d2 d3 d4 p0 p1 p2 p3 p4 s7
  refine S.mono ?_
  rintro x w8 ⟨rfl, f8⟩
  clear S
  have f68 : Fr no V6 w8 := HF67.out.new f8 (fun _ _ f => f)
  have hK8 := f68.heap HV6.out.2.1 (fun f => f)
  have hP8 := f68.heap HV6.out.2.2.1 (fun f => f)
  have hq8 := f68.heap HV6.out.2.2.2.1 (fun f => f)
  have hr8 := f68.heap HV6.out.2.2.2.2.1 (fun f => f)
  have fw8 := HV6.out.1.new f68 (fun _ _ f => f)
  have hlt8 : w2.heap.size < w8.heap.size := ltHeap hP8
  have hltq8 : q < w8.heap.size := ltHeap hq8
  have hltr8 : r < w8.heap.size := ltHeap hr8
  obtain ⟨⟨k0, k1, k2, k3, k4⟩, -⟩ := cells5z hK8
  have H8 : Hid (Fr no w w8 ∧ w8.heap[w2.heap.size]? = some (.cells #[.string ⟨#[77, 97, 105, 110]⟩, .string ⟨#[]⟩, .slice (some ⟨w2.heap.size + 1 + 1, 0, none⟩) 1 1, .slice none 0 0, .slice (some ⟨r, 0, none⟩) 1 1] 28 (0, 0)) ∧ w8.heap[q]? = some (.cells #[.int .i64 33, .int .i64 0] 57 (0, 0)) ∧ w8.heap[r]? = some (.cells #[.string ⟨#[109, 97, 105, 110]⟩, .slice none 0 0, .int .i64 0, .string ⟨#[]⟩, .int .i64 1, .int .i64 0, .slice (some ⟨q, 0, none⟩) 1 1, .slice none 0 0] 53 (0, 0))) := ⟨fw8, hP8, hq8, hr8⟩
  clear hK8 hP8 hq8 hr8 fw8 f68 f8 HV6 HF67
  have b9 := heap_alloc_new w8 (.cells #[.int .i64 0, .int .i64 0, .complex .f64 0 0, .string ⟨#[]⟩, .string ⟨#[]⟩] 39)
  have s9 := size_alloc w8 (.cells #[.int .i64 0, .int .i64 0, .complex .f64 0 0, .string ⟨#[]⟩, .string ⟨#[]⟩] 39)
  have g9 : Fr no w8 (w8.alloc (.cells #[.int .i64 0, .int .i64 0, .complex .f64 0 0, .string ⟨#[]⟩, .string ⟨#[]⟩] 39)) := (Fr.refl no w8).alloc _ _
  generalize hW9 : w8.alloc (.cells #[.int .i64 0, .int .i64 0, .complex .f64 0 0, .string ⟨#[]⟩, .string ⟨#[]⟩] 39) = W9 at *
  have b9v : (World.setCell (World.setCell (World.setCell (World.setCell (World.setCell W9 ⟨w8.heap.size, 0, none⟩ (.int .i64 1)) ⟨w8.heap.size, 1, none⟩ (.int .i64 n)) ⟨w8.heap.size, 2, none⟩ (.complex .f64 0 0)) ⟨w8.heap.size, 3, none⟩ (.string ⟨#[]⟩)) ⟨w8.heap.size, 4, none⟩ (.string ⟨#[]⟩)).heap[w8.heap.size]? = some (.cells #[.int .i64 1, .int .i64 n, .complex .f64 0 0, .string ⟨#[]⟩, .string ⟨#[]⟩] 39 (0, 0)) := set_chain5 b9
  have g9v := fr_chain5 W9 w8.heap.size (.int .i64 1) (.int .i64 n) (.complex .f64 0 0) (.string ⟨#[]⟩) (.string ⟨#[]⟩)
  have s9v : (World.setCell (World.setCell (World.setCell (World.setCell (World.setCell W9 ⟨w8.heap.size, 0, none⟩ (.int .i64 1)) ⟨w8.heap.size, 1, none⟩ (.int .i64 n)) ⟨w8.heap.size, 2, none⟩ (.complex .f64 0 0)) ⟨w8.heap.size, 3, none⟩ (.string ⟨#[]⟩)) ⟨w8.heap.size, 4, none⟩ (.string ⟨#[]⟩)).heap.size = w8.heap.size + 1 := by rw [← s9]; simp
  generalize hV9 : (World.setCell (World.setCell (World.setCell (World.setCell (World.setCell W9 ⟨w8.heap.size, 0, none⟩ (.int .i64 1)) ⟨w8.heap.size, 1, none⟩ (.int .i64 n)) ⟨w8.heap.size, 2, none⟩ (.complex .f64 0 0)) ⟨w8.heap.size, 3, none⟩ (.string ⟨#[]⟩)) ⟨w8.heap.size, 4, none⟩ (.string ⟨#[]⟩)) = V9 at *
  have g9' : Fr no w8 V9 := g9.trans g9v (fun _ _ f => f) (fun i hi e => by omega)
  obtain ⟨⟨y0, y1, y2, y3, y4⟩, yz0, yz1, yz2, yz3, yz4⟩ := cells5z b9
  obtain ⟨⟨e0', e1', e2', e3', e4'⟩, ez0, ez1, ez2, ez3, ez4⟩ := cells5z b9v
  rcases (show b % 3 = 0 ∨ b % 3 = 1 ∨ b % 3 = 2 by omega) with hbv | hbv | hbv
  · have hb3 : (b % 3 == 0) = true := by rw [hbv]; rfl
    have hb4 : (b % 3 == 1) = false := by rw [hbv]; rfl
    clear hbv
    have b10 : (World.setCell V9 ⟨w8.heap.size, 4, none⟩ (.string ⟨#[120]⟩)).heap[w8.heap.size]? = some (.cells #[.int .i64 1, .int .i64 n, .complex .f64 0 0, .string ⟨#[]⟩, .string ⟨#[120]⟩] 39 (0, 0)) := by
      unfold World.setCell
      rw [Array.getElem?_modify, if_pos rfl, b9v]
      rfl
    have g10 : Fr (fun k => k = w8.heap.size) V9 (World.setCell V9 ⟨w8.heap.size, 4, none⟩ (.string ⟨#[120]⟩)) := (Fr.refl (fun k => k = w8.heap.size) V9).setCell (p := ⟨w8.heap.size, 4, none⟩) (fun _ => rfl) (.string ⟨#[120]⟩)
    have s10 : (World.setCell V9 ⟨w8.heap.size, 4, none⟩ (.string ⟨#[120]⟩)).heap.size = w8.heap.size + 1 := by rw [← s9v]; simp
    generalize hV10 : (World.setCell V9 ⟨w8.heap.size, 4, none⟩ (.string ⟨#[120]⟩)) = V10 at *
    have g10' : Fr no w8 V10 := g9'.trans g10 (fun _ _ f => f) (fun i hi e => by omega)
    obtain ⟨⟨h0, h1, h2, h3, h4⟩, -⟩ := cells5z b10
    have b11 := heap_alloc_new V10 (.cells #[.int .i64 1, .int .i64 n, .complex .f64 0 0, .string ⟨#[]⟩, .string ⟨#[120]⟩] 39)
    have g11 : Fr no V10 (V10.alloc (.cells #[.int .i64 1, .int .i64 n, .complex .f64 0 0, .string ⟨#[]⟩, .string ⟨#[120]⟩] 39)) := (Fr.refl no V10).alloc _ _
    rw [s10] at b11
    generalize hW11 : V10.alloc (.cells #[.int .i64 1, .int .i64 n, .complex .f64 0 0, .string ⟨#[]⟩, .string ⟨#[120]⟩] 39) = W11 at *
    have bx11 := g11.heap (g10'.heap H8.out.2.1 (fun f => f)) (fun f => f)
    obtain ⟨⟨i0, i1, i2, i3, i4⟩, iz0, iz1, iz2, iz3, iz4⟩ := cells5z bx11
    have g12 : Fr (fun k => k = w2.heap.size) W11 (World.setCell W11 ⟨w2.heap.size, 2, none⟩ (.slice (some ⟨w8.heap.size + 1, 0, none⟩) 1 1)) := (Fr.refl (fun k => k = w2.heap.size) W11).setCell (p := ⟨w2.heap.size, 2, none⟩) (fun _ => rfl) _
    have bx12 : (World.setCell W11 ⟨w2.heap.size, 2, none⟩ (.slice (some ⟨w8.heap.size + 1, 0, none⟩) 1 1)).heap[w2.heap.size]? = some (.cells #[.string ⟨#[77, 97, 105, 110]⟩, .string ⟨#[]⟩, .slice (some ⟨w8.heap.size + 1, 0, none⟩) 1 1, .slice none 0 0, .slice (some ⟨r, 0, none⟩) 1 1] 28 (0, 0)) := by
      unfold World.setCell
      rw [Array.getElem?_modify, if_pos rfl, bx11]
      rfl
    generalize hV12 : World.setCell W11 ⟨w2.heap.size, 2, none⟩ (.slice (some ⟨w8.heap.size + 1, 0, none⟩) 1 1) = V12 at *
    obtain ⟨⟨j0, j1, j2, j3, j4⟩, -⟩ := cells5z bx12
    have hq12 := g12.heap (g11.heap (g10'.heap H8.out.2.2.1 (fun f => f)) (fun f => f)) (fun e => by omega)
    have hr12 := g12.heap (g11.heap (g10'.heap H8.out.2.2.2 (fun f => f)) (fun f => f)) (fun e => by omega)
    have fw12 : Fr no w V12 := ((H8.out.1.new g10' (fun _ _ f => f)).new g11 (fun _ _ f => f)).trans g12 (fun _ _ f => f) (fun i hi e => by omega)
    have CB : ClAt V12 (ctK (w8.heap.size + 1) r) (ctC (⟨1, n, 0, 0, ⟨#[]⟩, ⟨#[120]⟩⟩ : Cs)) := ct_at (x := (⟨1, n, 0, 0, ⟨#[]⟩, ⟨#[120]⟩⟩ : Cs)) (g12.heap b11 (fun e => by omega)) hq12 hr12
    have C := check_any V12 (HTR.out V12 fw12).1 (HTR.out V12 fw12).2 _ _ CB (ct_fitC (⟨1, n, 0, 0, ⟨#[]⟩, ⟨#[120]⟩⟩ : Cs) (show 0 ≤ 20 by decide) (show 1 ≤ 20 by decide))
    rw [ct_chk, show ckCs (⟨1, n, 0, 0, ⟨#[]⟩, ⟨#[120]⟩⟩ : Cs) = 51 from by simp [ckCs, e0]] at C
    unfold ksV ctK e0 at C
    simp only [] at C
    clear CB hq12 hr12 bx12 g12 bx11 g11 b11 g10' g10 b10 g9' g9v b9v g9 b9
    go_wp2_with fail
    refine C.mono ?_
    rintro x w13 ⟨rfl, f13⟩
    go_wp2_with fail
    go_ret
    exact ⟨rfl, fw12.new f13 (fun _ _ f => f)⟩
  · have hb3 : (b % 3 == 0) = false := by rw [hbv]; rfl
    have hb4 : (b % 3 == 1) = true := by rw [hbv]; rfl
    clear hbv
    have b10 : (World.setCell V9 ⟨w8.heap.size, 2, none⟩ (.complex .f64 4607182418800017408 0)).heap[w8.heap.size]? = some (.cells #[.int .i64 1, .int .i64 n, .complex .f64 4607182418800017408 0, .string ⟨#[]⟩, .string ⟨#[]⟩] 39 (0, 0)) := by
      unfold World.setCell
      rw [Array.getElem?_modify, if_pos rfl, b9v]
      rfl
    have g10 : Fr (fun k => k = w8.heap.size) V9 (World.setCell V9 ⟨w8.heap.size, 2, none⟩ (.complex .f64 4607182418800017408 0)) := (Fr.refl (fun k => k = w8.heap.size) V9).setCell (p := ⟨w8.heap.size, 2, none⟩) (fun _ => rfl) (.complex .f64 4607182418800017408 0)
    have s10 : (World.setCell V9 ⟨w8.heap.size, 2, none⟩ (.complex .f64 4607182418800017408 0)).heap.size = w8.heap.size + 1 := by rw [← s9v]; simp
    generalize hV10 : (World.setCell V9 ⟨w8.heap.size, 2, none⟩ (.complex .f64 4607182418800017408 0)) = V10 at *
    have g10' : Fr no w8 V10 := g9'.trans g10 (fun _ _ f => f) (fun i hi e => by omega)
    obtain ⟨⟨h0, h1, h2, h3, h4⟩, -⟩ := cells5z b10
    have b11 := heap_alloc_new V10 (.cells #[.int .i64 1, .int .i64 n, .complex .f64 4607182418800017408 0, .string ⟨#[]⟩, .string ⟨#[]⟩] 39)
    have g11 : Fr no V10 (V10.alloc (.cells #[.int .i64 1, .int .i64 n, .complex .f64 4607182418800017408 0, .string ⟨#[]⟩, .string ⟨#[]⟩] 39)) := (Fr.refl no V10).alloc _ _
    rw [s10] at b11
    generalize hW11 : V10.alloc (.cells #[.int .i64 1, .int .i64 n, .complex .f64 4607182418800017408 0, .string ⟨#[]⟩, .string ⟨#[]⟩] 39) = W11 at *
    have bx11 := g11.heap (g10'.heap H8.out.2.1 (fun f => f)) (fun f => f)
    obtain ⟨⟨i0, i1, i2, i3, i4⟩, iz0, iz1, iz2, iz3, iz4⟩ := cells5z bx11
    have g12 : Fr (fun k => k = w2.heap.size) W11 (World.setCell W11 ⟨w2.heap.size, 2, none⟩ (.slice (some ⟨w8.heap.size + 1, 0, none⟩) 1 1)) := (Fr.refl (fun k => k = w2.heap.size) W11).setCell (p := ⟨w2.heap.size, 2, none⟩) (fun _ => rfl) _
    have bx12 : (World.setCell W11 ⟨w2.heap.size, 2, none⟩ (.slice (some ⟨w8.heap.size + 1, 0, none⟩) 1 1)).heap[w2.heap.size]? = some (.cells #[.string ⟨#[77, 97, 105, 110]⟩, .string ⟨#[]⟩, .slice (some ⟨w8.heap.size + 1, 0, none⟩) 1 1, .slice none 0 0, .slice (some ⟨r, 0, none⟩) 1 1] 28 (0, 0)) := by
      unfold World.setCell
      rw [Array.getElem?_modify, if_pos rfl, bx11]
      rfl
    generalize hV12 : World.setCell W11 ⟨w2.heap.size, 2, none⟩ (.slice (some ⟨w8.heap.size + 1, 0, none⟩) 1 1) = V12 at *
    obtain ⟨⟨j0, j1, j2, j3, j4⟩, -⟩ := cells5z bx12
    have hq12 := g12.heap (g11.heap (g10'.heap H8.out.2.2.1 (fun f => f)) (fun f => f)) (fun e => by omega)
    have hr12 := g12.heap (g11.heap (g10'.heap H8.out.2.2.2 (fun f => f)) (fun f => f)) (fun e => by omega)
    have fw12 : Fr no w V12 := ((H8.out.1.new g10' (fun _ _ f => f)).new g11 (fun _ _ f => f)).trans g12 (fun _ _ f => f) (fun i hi e => by omega)
    have CB : ClAt V12 (ctK (w8.heap.size + 1) r) (ctC (⟨1, n, 4607182418800017408, 0, ⟨#[]⟩, ⟨#[]⟩⟩ : Cs)) := ct_at (x := (⟨1, n, 4607182418800017408, 0, ⟨#[]⟩, ⟨#[]⟩⟩ : Cs)) (g12.heap b11 (fun e => by omega)) hq12 hr12
    have C := check_any V12 (HTR.out V12 fw12).1 (HTR.out V12 fw12).2 _ _ CB (ct_fitC (⟨1, n, 4607182418800017408, 0, ⟨#[]⟩, ⟨#[]⟩⟩ : Cs) (show 0 ≤ 20 by decide) (show 0 ≤ 20 by decide))
    rw [ct_chk, show ckCs (⟨1, n, 4607182418800017408, 0, ⟨#[]⟩, ⟨#[]⟩⟩ : Cs) = 51 from by simp [ckCs, e0]] at C
    unfold ksV ctK e0 at C
    simp only [] at C
    clear CB hq12 hr12 bx12 g12 bx11 g11 b11 g10' g10 b10 g9' g9v b9v g9 b9
    go_wp2_with fail
    refine C.mono ?_
    rintro x w13 ⟨rfl, f13⟩
    go_wp2_with fail
    go_ret
    exact ⟨rfl, fw12.new f13 (fun _ _ f => f)⟩
  · have hb3 : (b % 3 == 0) = false := by rw [hbv]; rfl
    have hb4 : (b % 3 == 1) = false := by rw [hbv]; rfl
    clear hbv
    have b10 : (World.setCell V9 ⟨w8.heap.size, 4, none⟩ (.string ⟨#[120]⟩)).heap[w8.heap.size]? = some (.cells #[.int .i64 1, .int .i64 n, .complex .f64 0 0, .string ⟨#[]⟩, .string ⟨#[120]⟩] 39 (0, 0)) := by
      unfold World.setCell
      rw [Array.getElem?_modify, if_pos rfl, b9v]
      rfl
    have g10 : Fr (fun k => k = w8.heap.size) V9 (World.setCell V9 ⟨w8.heap.size, 4, none⟩ (.string ⟨#[120]⟩)) := (Fr.refl (fun k => k = w8.heap.size) V9).setCell (p := ⟨w8.heap.size, 4, none⟩) (fun _ => rfl) (.string ⟨#[120]⟩)
    have s10 : (World.setCell V9 ⟨w8.heap.size, 4, none⟩ (.string ⟨#[120]⟩)).heap.size = w8.heap.size + 1 := by rw [← s9v]; simp
    generalize hV10 : (World.setCell V9 ⟨w8.heap.size, 4, none⟩ (.string ⟨#[120]⟩)) = V10 at *
    have g10' : Fr no w8 V10 := g9'.trans g10 (fun _ _ f => f) (fun i hi e => by omega)
    obtain ⟨⟨h0, h1, h2, h3, h4⟩, -⟩ := cells5z b10
    have b11 := heap_alloc_new V10 (.cells #[.int .i64 1, .int .i64 n, .complex .f64 0 0, .string ⟨#[]⟩, .string ⟨#[120]⟩] 39)
    have g11 : Fr no V10 (V10.alloc (.cells #[.int .i64 1, .int .i64 n, .complex .f64 0 0, .string ⟨#[]⟩, .string ⟨#[120]⟩] 39)) := (Fr.refl no V10).alloc _ _
    rw [s10] at b11
    generalize hW11 : V10.alloc (.cells #[.int .i64 1, .int .i64 n, .complex .f64 0 0, .string ⟨#[]⟩, .string ⟨#[120]⟩] 39) = W11 at *
    have bx11 := g11.heap (g10'.heap H8.out.2.1 (fun f => f)) (fun f => f)
    obtain ⟨⟨i0, i1, i2, i3, i4⟩, iz0, iz1, iz2, iz3, iz4⟩ := cells5z bx11
    have g12 : Fr (fun k => k = w2.heap.size) W11 (World.setCell W11 ⟨w2.heap.size, 2, none⟩ (.slice (some ⟨w8.heap.size + 1, 0, none⟩) 1 1)) := (Fr.refl (fun k => k = w2.heap.size) W11).setCell (p := ⟨w2.heap.size, 2, none⟩) (fun _ => rfl) _
    have bx12 : (World.setCell W11 ⟨w2.heap.size, 2, none⟩ (.slice (some ⟨w8.heap.size + 1, 0, none⟩) 1 1)).heap[w2.heap.size]? = some (.cells #[.string ⟨#[77, 97, 105, 110]⟩, .string ⟨#[]⟩, .slice (some ⟨w8.heap.size + 1, 0, none⟩) 1 1, .slice none 0 0, .slice (some ⟨r, 0, none⟩) 1 1] 28 (0, 0)) := by
      unfold World.setCell
      rw [Array.getElem?_modify, if_pos rfl, bx11]
      rfl
    generalize hV12 : World.setCell W11 ⟨w2.heap.size, 2, none⟩ (.slice (some ⟨w8.heap.size + 1, 0, none⟩) 1 1) = V12 at *
    obtain ⟨⟨j0, j1, j2, j3, j4⟩, -⟩ := cells5z bx12
    have hq12 := g12.heap (g11.heap (g10'.heap H8.out.2.2.1 (fun f => f)) (fun f => f)) (fun e => by omega)
    have hr12 := g12.heap (g11.heap (g10'.heap H8.out.2.2.2 (fun f => f)) (fun f => f)) (fun e => by omega)
    have fw12 : Fr no w V12 := ((H8.out.1.new g10' (fun _ _ f => f)).new g11 (fun _ _ f => f)).trans g12 (fun _ _ f => f) (fun i hi e => by omega)
    have CB : ClAt V12 (ctK (w8.heap.size + 1) r) (ctC (⟨1, n, 0, 0, ⟨#[]⟩, ⟨#[120]⟩⟩ : Cs)) := ct_at (x := (⟨1, n, 0, 0, ⟨#[]⟩, ⟨#[120]⟩⟩ : Cs)) (g12.heap b11 (fun e => by omega)) hq12 hr12
    have C := check_any V12 (HTR.out V12 fw12).1 (HTR.out V12 fw12).2 _ _ CB (ct_fitC (⟨1, n, 0, 0, ⟨#[]⟩, ⟨#[120]⟩⟩ : Cs) (show 0 ≤ 20 by decide) (show 1 ≤ 20 by decide))
    rw [ct_chk, show ckCs (⟨1, n, 0, 0, ⟨#[]⟩, ⟨#[120]⟩⟩ : Cs) = 51 from by simp [ckCs, e0]] at C
    unfold ksV ctK e0 at C
    simp only [] at C
    clear CB hq12 hr12 bx12 g12 bx11 g11 b11 g10' g10 b10 g9' g9v b9v g9 b9
    go_wp2_with fail
    refine C.mono ?_
    rintro x w13 ⟨rfl, f13⟩
    go_wp2_with fail
    go_ret
    exact ⟨rfl, fw12.new f13 (fun _ _ f => f)⟩

set_option maxRecDepth 100000 in
set_option maxHeartbeats 8000000 in
theorem consts2 (w : World) (T : Tb w) (R : Tr w) (a : Int) (ha0 : 0 ≤ a) (ha1 : a ≤ 255) (n : Int) (b : Int) (hb0 : 0 ≤ b) (hb1 : b ≤ 255) (hav : a % 5 = 1) : Calls Tryz.prog 4 #[.int .u8 a, .int .i64 n, .int .u8 b] w fun e w' => e = .returned (.bool true) ∧ Fr no w w' := by
  have hstc := run_store_cx
  have HTR : Hid (∀ w1, Fr no w w1 → Tb w1 ∧ Tr w1) := fun w1 f => ⟨T.kept f, R.kept f⟩
  have KN := known_any w T R
  clear T R
  go_enter Tryz.func4, Tryz.ntmps4
  go_wp2_with fail
  refine KN.mono ?_
  rintro x w1 ⟨rfl, f1⟩
  go_wp2_with fail
  refine (small_any w1).mono ?_
  rintro x w2 ⟨q, r, rfl, hqs, hrs, hne, hq, hr, f2⟩
  have fw2 := f1.new f2 (fun _ _ f => f)
  have hltq : q < w2.heap.size := ltHeap hq
  have hltr : r < w2.heap.size := ltHeap hr
  have b2 := heap_alloc_new w2 (.cells #[.string ⟨#[]⟩, .string ⟨#[]⟩, .slice none 0 0, .slice none 0 0, .slice none 0 0] 28)
  have s2 := size_alloc w2 (.cells #[.string ⟨#[]⟩, .string ⟨#[]⟩, .slice none 0 0, .slice none 0 0, .slice none 0 0] 28)
  have g2 : Fr no w2 (w2.alloc (.cells #[.string ⟨#[]⟩, .string ⟨#[]⟩, .slice none 0 0, .slice none 0 0, .slice none 0 0] 28)) := (Fr.refl no w2).alloc _ _
  generalize hW2 : w2.alloc (.cells #[.string ⟨#[]⟩, .string ⟨#[]⟩, .slice none 0 0, .slice none 0 0, .slice none 0 0] 28) = W2 at *
  have b2v : (World.setCell (World.setCell (World.setCell (World.setCell (World.setCell W2 ⟨w2.heap.size, 0, none⟩ (.string ⟨#[77, 97, 105, 110]⟩)) ⟨w2.heap.size, 1, none⟩ (.string ⟨#[]⟩)) ⟨w2.heap.size, 2, none⟩ (.slice none 0 0)) ⟨w2.heap.size, 3, none⟩ (.slice none 0 0)) ⟨w2.heap.size, 4, none⟩ (.slice (some ⟨r, 0, none⟩) 1 1)).heap[w2.heap.size]? = some (.cells #[.string ⟨#[77, 97, 105, 110]⟩, .string ⟨#[]⟩, .slice none 0 0, .slice none 0 0, .slice (some ⟨r, 0, none⟩) 1 1] 28 (0, 0)) := set_chain5 b2
  have g2v := fr_chain5 W2 w2.heap.size (.string ⟨#[77, 97, 105, 110]⟩) (.string ⟨#[]⟩) (.slice none 0 0) (.slice none 0 0) (.slice (some ⟨r, 0, none⟩) 1 1)
  have s2v : (World.setCell (World.setCell (World.setCell (World.setCell (World.setCell W2 ⟨w2.heap.size, 0, none⟩ (.string ⟨#[77, 97, 105, 110]⟩)) ⟨w2.heap.size, 1, none⟩ (.string ⟨#[]⟩)) ⟨w2.heap.size, 2, none⟩ (.slice none 0 0)) ⟨w2.heap.size, 3, none⟩ (.slice none 0 0)) ⟨w2.heap.size, 4, none⟩ (.slice (some ⟨r, 0, none⟩) 1 1)).heap.size = w2.heap.size + 1 := by rw [← s2]; simp
  generalize hV2 : (World.setCell (World.setCell (World.setCell (World.setCell (World.setCell W2 ⟨w2.heap.size, 0, none⟩ (.string ⟨#[77, 97, 105, 110]⟩)) ⟨w2.heap.size, 1, none⟩ (.string ⟨#[]⟩)) ⟨w2.heap.size, 2, none⟩ (.slice none 0 0)) ⟨w2.heap.size, 3, none⟩ (.slice none 0 0)) ⟨w2.heap.size, 4, none⟩ (.slice (some ⟨r, 0, none⟩) 1 1)) = V2 at *
  have g2' : Fr no w2 V2 := g2.trans g2v (fun _ _ f => f) (fun i hi e => by omega)
  obtain ⟨⟨c0, c1, c2, c3, c4⟩, z0, z1, z2, z3, z4⟩ := cells5z b2
  have fw := fw2.new g2' (fun _ _ f => f)
  have HS : Hid (Fr no w V2 ∧ V2.heap[w2.heap.size]? = some (.cells #[.string ⟨#[77, 97, 105, 110]⟩, .string ⟨#[]⟩, .slice none 0 0, .slice none 0 0, .slice (some ⟨r, 0, none⟩) 1 1] 28 (0, 0)) ∧ V2.heap[r]? = some (.cells #[.string ⟨#[109, 97, 105, 110]⟩, .slice none 0 0, .int .i64 0, .string ⟨#[]⟩, .int .i64 1, .int .i64 0, .slice (some ⟨q, 0, none⟩) 1 1, .slice none 0 0] 53 (0, 0)) ∧ V2.heap[q]? = some (.cells #[.int .i64 33, .int .i64 0] 57 (0, 0))) := ⟨fw, b2v, g2'.heap hr (fun f => f), g2'.heap hq (fun f => f)⟩
  have hPw : w.heap.size ≤ w2.heap.size := fw2.size
  clear fw g2 g2' g2v b2 b2v fw2 f1 f2 hq hr KN hqs hrs
  have b3 := heap_alloc_new V2 (.cells #[.int .i64 0, .int .i64 0, .complex .f64 0 0, .string ⟨#[]⟩, .string ⟨#[]⟩] 39)
  have s3 := size_alloc V2 (.cells #[.int .i64 0, .int .i64 0, .complex .f64 0 0, .string ⟨#[]⟩, .string ⟨#[]⟩] 39)
  have g3 : Fr no V2 (V2.alloc (.cells #[.int .i64 0, .int .i64 0, .complex .f64 0 0, .string ⟨#[]⟩, .string ⟨#[]⟩] 39)) := (Fr.refl no V2).alloc _ _
  rw [s2v] at b3 s3
  generalize hW3 : V2.alloc (.cells #[.int .i64 0, .int .i64 0, .complex .f64 0 0, .string ⟨#[]⟩, .string ⟨#[]⟩] 39) = W3 at *
  have hre : floatOfInt .f64 (Int.tmod n 100) < 2 ^ 64 := f100 _ (tmod100 n).1 (tmod100 n).2
  generalize hfl : floatOfInt .f64 (Int.tmod n 100) = re at *
  obtain ⟨⟨y0, y1, y2, y3, y4⟩, yz0, yz1, yz2, yz3, yz4⟩ := cells5z b3
  have b3v : (World.setCell (World.setCell (World.setCell (World.setCell (World.setCell W3 ⟨w2.heap.size + 1, 0, none⟩ (.int .i64 2)) ⟨w2.heap.size + 1, 1, none⟩ (.int .i64 0)) ⟨w2.heap.size + 1, 2, none⟩ (.complex .f64 0 0)) ⟨w2.heap.size + 1, 3, none⟩ (.string ⟨#[]⟩)) ⟨w2.heap.size + 1, 4, none⟩ (.string ⟨#[]⟩)).heap[w2.heap.size + 1]? = some (.cells #[.int .i64 2, .int .i64 0, .complex .f64 0 0, .string ⟨#[]⟩, .string ⟨#[]⟩] 39 (0, 0)) := set_chain5 b3
  have g3v := fr_chain5 W3 (w2.heap.size + 1) (.int .i64 2) (.int .i64 0) (.complex .f64 0 0) (.string ⟨#[]⟩) (.string ⟨#[]⟩)
  have s3v : (World.setCell (World.setCell (World.setCell (World.setCell (World.setCell W3 ⟨w2.heap.size + 1, 0, none⟩ (.int .i64 2)) ⟨w2.heap.size + 1, 1, none⟩ (.int .i64 0)) ⟨w2.heap.size + 1, 2, none⟩ (.complex .f64 0 0)) ⟨w2.heap.size + 1, 3, none⟩ (.string ⟨#[]⟩)) ⟨w2.heap.size + 1, 4, none⟩ (.string ⟨#[]⟩)).heap.size = w2.heap.size + 1 + 1 := by rw [← s3]; simp
  generalize hV3 : (World.setCell (World.setCell (World.setCell (World.setCell (World.setCell W3 ⟨w2.heap.size + 1, 0, none⟩ (.int .i64 2)) ⟨w2.heap.size + 1, 1, none⟩ (.int .i64 0)) ⟨w2.heap.size + 1, 2, none⟩ (.complex .f64 0 0)) ⟨w2.heap.size + 1, 3, none⟩ (.string ⟨#[]⟩)) ⟨w2.heap.size + 1, 4, none⟩ (.string ⟨#[]⟩)) = V3 at *
  have g3' : Fr no V2 V3 := g3.trans g3v (fun _ _ f => f) (fun i hi e => by omega)
  obtain ⟨⟨e0', e1', e2', e3', e4'⟩, ez0, ez1, ez2, ez3, ez4⟩ := cells5z b3v
  have b4 : (World.setCell V3 ⟨w2.heap.size + 1, 2, none⟩ (.complex .f64 re 4607182418800017408)).heap[w2.heap.size + 1]? = some (.cells #[.int .i64 2, .int .i64 0, .complex .f64 re 4607182418800017408, .string ⟨#[]⟩, .string ⟨#[]⟩] 39 (0, 0)) := by
    have hs0 : (World.setCell V3 ⟨w2.heap.size + 1, 2, none⟩ (.complex .f64 re 4607182418800017408)).heap[w2.heap.size + 1]? = some (.cells #[.int .i64 2, .int .i64 0, .complex .f64 re 4607182418800017408, .string ⟨#[]⟩, .string ⟨#[]⟩] 39 (0, 0)) := by
      unfold World.setCell
      rw [Array.getElem?_modify, if_pos rfl, b3v]
      rfl
    exact hs0
  have g4 : Fr (fun k => k = w2.heap.size + 1) V3 (World.setCell V3 ⟨w2.heap.size + 1, 2, none⟩ (.complex .f64 re 4607182418800017408)) := ((Fr.refl (fun k => k = w2.heap.size + 1) V3).setCell (p := ⟨w2.heap.size + 1, 2, none⟩) (fun _ => rfl) (.complex .f64 re 4607182418800017408))
  have s4 : (World.setCell V3 ⟨w2.heap.size + 1, 2, none⟩ (.complex .f64 re 4607182418800017408)).heap.size = w2.heap.size + 1 + 1 := by rw [← s3v]; simp
  generalize hV4 : (World.setCell V3 ⟨w2.heap.size + 1, 2, none⟩ (.complex .f64 re 4607182418800017408)) = V4 at *
  have g4' : Fr no V2 V4 := g3'.trans g4 (fun _ _ f => f) (fun i hi e => by omega)
  obtain ⟨⟨h0, h1, h2, h3, h4⟩, -⟩ := cells5z b4
  have b5 := heap_alloc_new V4 (.cells #[.int .i64 2, .int .i64 0, .complex .f64 re 4607182418800017408, .string ⟨#[]⟩, .string ⟨#[]⟩] 39)
  have g5 : Fr no V4 (V4.alloc (.cells #[.int .i64 2, .int .i64 0, .complex .f64 re 4607182418800017408, .string ⟨#[]⟩, .string ⟨#[]⟩] 39)) := (Fr.refl no V4).alloc _ _
  rw [s4] at b5
  generalize hW5 : V4.alloc (.cells #[.int .i64 2, .int .i64 0, .complex .f64 re 4607182418800017408, .string ⟨#[]⟩, .string ⟨#[]⟩] 39) = W5 at *
  have bx5 := g5.heap (g4'.heap HS.out.2.1 (fun f => f)) (fun f => f)
  obtain ⟨⟨i0, i1, i2, i3, i4⟩, iz0, iz1, iz2, iz3, iz4⟩ := cells5z bx5
  have g6 : Fr (fun k => k = w2.heap.size) W5 (World.setCell W5 ⟨w2.heap.size, 2, none⟩ (.slice (some ⟨w2.heap.size + 1 + 1, 0, none⟩) 1 1)) := (Fr.refl (fun k => k = w2.heap.size) W5).setCell (p := ⟨w2.heap.size, 2, none⟩) (fun _ => rfl) _
  have bx6 : (World.setCell W5 ⟨w2.heap.size, 2, none⟩ (.slice (some ⟨w2.heap.size + 1 + 1, 0, none⟩) 1 1)).heap[w2.heap.size]? = some (.cells #[.string ⟨#[77, 97, 105, 110]⟩, .string ⟨#[]⟩, .slice (some ⟨w2.heap.size + 1 + 1, 0, none⟩) 1 1, .slice none 0 0, .slice (some ⟨r, 0, none⟩) 1 1] 28 (0, 0)) := by
    unfold World.setCell
    rw [Array.getElem?_modify, if_pos rfl, bx5]
    rfl
  generalize hV6 : World.setCell W5 ⟨w2.heap.size, 2, none⟩ (.slice (some ⟨w2.heap.size + 1 + 1, 0, none⟩) 1 1) = V6 at *
  obtain ⟨⟨j0, j1, j2, j3, j4⟩, -⟩ := cells5z bx6
  have f26 : Fr (fun k => k = w2.heap.size) V2 V6 := (g4'.new g5 (fun _ _ f => f)).trans g6 (fun _ _ f => f.elim) (fun _ _ e => e)
  have hck : ckCs (⟨2, 0, re, 4607182418800017408, ⟨#[]⟩, ⟨#[]⟩⟩ : Cs) = 0 := by simp [ckCs, e0]
  have hfitx : FitK (ctC (⟨2, 0, re, 4607182418800017408, ⟨#[]⟩, ⟨#[]⟩⟩ : Cs)) := ct_fit _ ⟨show (-9223372036854775808 : Int) ≤ 0 by decide, show (0 : Int) ≤ 9223372036854775807 by decide, hre, show (4607182418800017408 : Nat) < 2 ^ 64 by decide⟩ (show 0 ≤ 20 by decide) (show 0 ≤ 20 by decide)
  have HV6 : Hid (Fr no w V6 ∧ V6.heap[w2.heap.size + 1]? = some (.cells #[.int .i64 2, .int .i64 0, .complex .f64 re 4607182418800017408, .string ⟨#[]⟩, .string ⟨#[]⟩] 39 (0, 0)) ∧ V6.heap[w2.heap.size]? = some (.cells #[.string ⟨#[77, 97, 105, 110]⟩, .string ⟨#[]⟩, .slice (some ⟨w2.heap.size + 1 + 1, 0, none⟩) 1 1, .slice none 0 0, .slice (some ⟨r, 0, none⟩) 1 1] 28 (0, 0)) ∧ V6.heap[q]? = some (.cells #[.int .i64 33, .int .i64 0] 57 (0, 0)) ∧ V6.heap[r]? = some (.cells #[.string ⟨#[109, 97, 105, 110]⟩, .slice none 0 0, .int .i64 0, .string ⟨#[]⟩, .int .i64 1, .int .i64 0, .slice (some ⟨q, 0, none⟩) 1 1, .slice none 0 0] 53 (0, 0)) ∧ ClAt V6 (ctK (w2.heap.size + 1 + 1) r) (ctC (⟨2, 0, re, 4607182418800017408, ⟨#[]⟩, ⟨#[]⟩⟩ : Cs))) :=
    have h1 := f26.heap HS.out.2.2.2 (fun e => by omega)
    have h2 := f26.heap HS.out.2.2.1 (fun e => by omega)
    ⟨HS.out.1.trans f26 (fun _ _ f => f) (fun i hi e => by omega), g6.heap (g5.heap b4 (fun f => f)) (fun e => by omega), bx6, h1, h2, ct_at (x := (⟨2, 0, re, 4607182418800017408, ⟨#[]⟩, ⟨#[]⟩⟩ : Cs)) (g6.heap b5 (fun e => by omega)) h1 h2⟩
  have E := encode_any V6 (HTR.out V6 HV6.out.1).1 (HTR.out V6 HV6.out.1).2 _ _ HV6.out.2.2.2.2.2 hfitx
  rw [(ct_ec _ hck).1, (ct_ec _ hck).2] at E
  unfold ksV ctK e0 at E
  simp only [] at E
  have HC : Hid (ckCs (⟨2, 0, re, 4607182418800017408, ⟨#[]⟩, ⟨#[]⟩⟩ : Cs) = 0 ∧ FitK (ctC (⟨2, 0, re, 4607182418800017408, ⟨#[]⟩, ⟨#[]⟩⟩ : Cs))) := ⟨hck, hfitx⟩
  clear hck hfitx f26 bx6 g6 bx5 g5 b5 g4' g4 b4 g3' g3v b3v
  go_wp2_with fail
  clear s2 s2v s3 s3v s4 hW2 hV2 c0 c1 c2 c3 c4 z0 z1 z2 z3 z4 hW3 hV3 hV4 hW5 hV6 y0 y1 y2 y3 y4 yz0 yz1 yz2 yz3 yz4 e0' e1' e2' e3' e4' ez0 ez1 ez2 ez3 ez4 h0 h1 h2 h3 h4 i0 i1 i2 i3 i4 iz0 iz1 iz2 iz3 iz4 j0 j1 j2 j3 j4
  refine E.mono ?_
  rintro x w6 ⟨v6, rfl, o6, f6⟩
  clear E
  have fw6 := HV6.out.1.new f6 (fun _ _ f => f)
  have D := decode_any w6 (HTR.out w6 fw6).1 (HTR.out w6 fw6).2 v6 _ o6.sl (ct_by _ ⟨show (0 : Int) ≤ 2 by decide, show (2 : Int) ≤ 255 by decide⟩) (Nat.le_trans (ct_len _ (ct_v _ HC.out.1)) (by decide))
  rw [(ct_dec _ HC.out.1 HC.out.2).1, (ct_dec _ HC.out.1 HC.out.2).2] at D
  obtain ⟨va, vl, vc, ev⟩ := o6.form
  subst ev
  clear o6
  go_wp2_with fail
  refine D.mono ?_
  rintro x w7 ⟨⟨kn, ks, kp, kf, km⟩, rfl, hcl, f7⟩
  clear D
  have b7 := heap_alloc_new w7 (.cells #[.string ⟨#[]⟩, .string ⟨#[]⟩, .slice none 0 0, .slice none 0 0, .slice none 0 0] 28)
  have s7 := size_alloc w7 (.cells #[.string ⟨#[]⟩, .string ⟨#[]⟩, .slice none 0 0, .slice none 0 0, .slice none 0 0] 28)
  have g7 : Fr no w7 (w7.alloc (.cells #[.string ⟨#[]⟩, .string ⟨#[]⟩, .slice none 0 0, .slice none 0 0, .slice none 0 0] 28)) := (Fr.refl no w7).alloc _ _
  generalize hW7 : w7.alloc (.cells #[.string ⟨#[]⟩, .string ⟨#[]⟩, .slice none 0 0, .slice none 0 0, .slice none 0 0] 28) = W7 at *
  have b7v : (World.setCell (World.setCell (World.setCell (World.setCell (World.setCell W7 ⟨w7.heap.size, 0, none⟩ (.string kn)) ⟨w7.heap.size, 1, none⟩ (.string ks)) ⟨w7.heap.size, 2, none⟩ (.slice kp.a kp.n kp.c)) ⟨w7.heap.size, 3, none⟩ (.slice kf.a kf.n kf.c)) ⟨w7.heap.size, 4, none⟩ (.slice km.a km.n km.c)).heap[w7.heap.size]? = some (.cells #[.string kn, .string ks, .slice kp.a kp.n kp.c, .slice kf.a kf.n kf.c, .slice km.a km.n km.c] 28 (0, 0)) := set_chain5 b7
  have g7v := fr_chain5 W7 w7.heap.size (.string kn) (.string ks) (.slice kp.a kp.n kp.c) (.slice kf.a kf.n kf.c) (.slice km.a km.n km.c)
  generalize hV7 : (World.setCell (World.setCell (World.setCell (World.setCell (World.setCell W7 ⟨w7.heap.size, 0, none⟩ (.string kn)) ⟨w7.heap.size, 1, none⟩ (.string ks)) ⟨w7.heap.size, 2, none⟩ (.slice kp.a kp.n kp.c)) ⟨w7.heap.size, 3, none⟩ (.slice kf.a kf.n kf.c)) ⟨w7.heap.size, 4, none⟩ (.slice km.a km.n km.c)) = V7 at *
  have g7' : Fr no w7 V7 := g7.trans g7v (fun _ _ f => f) (fun i hi e => by omega)
  obtain ⟨⟨c0, c1, c2, c3, c4⟩, z0, z1, z2, z3, z4⟩ := cells5z b7
  obtain ⟨⟨d0, d1, d2, d3, d4⟩, -⟩ := cells5z b7v
  have f67 : Fr no V6 V7 := (f6.new f7 (fun _ _ f => f)).new g7' (fun _ _ f => f)
  obtain ⟨⟨p0, p1, p2, p3, p4⟩, -⟩ := cells5z (f67.heap HV6.out.2.2.1 (fun f => f))
  have S := same_any V7 (ctK (w2.heap.size + 1 + 1) r) ⟨kn, ks, kp, kf, km⟩ _ (HV6.out.2.2.2.2.2.kept f67) (hcl.kept g7')
  unfold ksV ctK e0 at S
  simp only [] at S
  have HF67 : Hid (Fr no V6 V7) := f67
  unfold ksV
  simp only []
  clear f67 g7' g7v b7v g7 b7 hcl f7 f6 fw6
  go_wp2_with fail
  clear hW7 hV7 c0 c1 c2 c3 c4 z0 z1 z2 z3 z4 d0 d1 d2 d3 d4 p0 p1 p2 p3 p4 s7
  refine S.mono ?_
  rintro x w8 ⟨rfl, f8⟩
  clear S
  have f68 : Fr no V6 w8 := HF67.out.new f8 (fun _ _ f => f)
  have hK8 := f68.heap HV6.out.2.1 (fun f => f)
  have hP8 := f68.heap HV6.out.2.2.1 (fun f => f)
  have hq8 := f68.heap HV6.out.2.2.2.1 (fun f => f)
  have hr8 := f68.heap HV6.out.2.2.2.2.1 (fun f => f)
  have fw8 := HV6.out.1.new f68 (fun _ _ f => f)
  have hlt8 : w2.heap.size < w8.heap.size := ltHeap hP8
  have hltq8 : q < w8.heap.size := ltHeap hq8
  have hltr8 : r < w8.heap.size := ltHeap hr8
  obtain ⟨⟨k0, k1, k2, k3, k4⟩, -⟩ := cells5z hK8
  have H8 : Hid (Fr no w w8 ∧ w8.heap[w2.heap.size]? = some (.cells #[.string ⟨#[77, 97, 105, 110]⟩, .string ⟨#[]⟩, .slice (some ⟨w2.heap.size + 1 + 1, 0, none⟩) 1 1, .slice none 0 0, .slice (some ⟨r, 0, none⟩) 1 1] 28 (0, 0)) ∧ w8.heap[q]? = some (.cells #[.int .i64 33, .int .i64 0] 57 (0, 0)) ∧ w8.heap[r]? = some (.cells #[.string ⟨#[109, 97, 105, 110]⟩, .slice none 0 0, .int .i64 0, .string ⟨#[]⟩, .int .i64 1, .int .i64 0, .slice (some ⟨q, 0, none⟩) 1 1, .slice none 0 0] 53 (0, 0))) := ⟨fw8, hP8, hq8, hr8⟩
  clear hK8 hP8 hq8 hr8 fw8 f68 f8 HV6 HF67
  have b9 := heap_alloc_new w8 (.cells #[.int .i64 0, .int .i64 0, .complex .f64 0 0, .string ⟨#[]⟩, .string ⟨#[]⟩] 39)
  have s9 := size_alloc w8 (.cells #[.int .i64 0, .int .i64 0, .complex .f64 0 0, .string ⟨#[]⟩, .string ⟨#[]⟩] 39)
  have g9 : Fr no w8 (w8.alloc (.cells #[.int .i64 0, .int .i64 0, .complex .f64 0 0, .string ⟨#[]⟩, .string ⟨#[]⟩] 39)) := (Fr.refl no w8).alloc _ _
  generalize hW9 : w8.alloc (.cells #[.int .i64 0, .int .i64 0, .complex .f64 0 0, .string ⟨#[]⟩, .string ⟨#[]⟩] 39) = W9 at *
  have b9v : (World.setCell (World.setCell (World.setCell (World.setCell (World.setCell W9 ⟨w8.heap.size, 0, none⟩ (.int .i64 2)) ⟨w8.heap.size, 1, none⟩ (.int .i64 0)) ⟨w8.heap.size, 2, none⟩ (.complex .f64 re 4607182418800017408)) ⟨w8.heap.size, 3, none⟩ (.string ⟨#[]⟩)) ⟨w8.heap.size, 4, none⟩ (.string ⟨#[]⟩)).heap[w8.heap.size]? = some (.cells #[.int .i64 2, .int .i64 0, .complex .f64 re 4607182418800017408, .string ⟨#[]⟩, .string ⟨#[]⟩] 39 (0, 0)) := set_chain5 b9
  have g9v := fr_chain5 W9 w8.heap.size (.int .i64 2) (.int .i64 0) (.complex .f64 re 4607182418800017408) (.string ⟨#[]⟩) (.string ⟨#[]⟩)
  have s9v : (World.setCell (World.setCell (World.setCell (World.setCell (World.setCell W9 ⟨w8.heap.size, 0, none⟩ (.int .i64 2)) ⟨w8.heap.size, 1, none⟩ (.int .i64 0)) ⟨w8.heap.size, 2, none⟩ (.complex .f64 re 4607182418800017408)) ⟨w8.heap.size, 3, none⟩ (.string ⟨#[]⟩)) ⟨w8.heap.size, 4, none⟩ (.string ⟨#[]⟩)).heap.size = w8.heap.size + 1 := by rw [← s9]; simp
  generalize hV9 : (World.setCell (World.setCell (World.setCell (World.setCell (World.setCell W9 ⟨w8.heap.size, 0, none⟩ (.int .i64 2)) ⟨w8.heap.size, 1, none⟩ (.int .i64 0)) ⟨w8.heap.size, 2, none⟩ (.complex .f64 re 4607182418800017408)) ⟨w8.heap.size, 3, none⟩ (.string ⟨#[]⟩)) ⟨w8.heap.size, 4, none⟩ (.string ⟨#[]⟩)) = V9 at *
  have g9' : Fr no w8 V9 := g9.trans g9v (fun _ _ f => f) (fun i hi e => by omega)
  obtain ⟨⟨y0, y1, y2, y3, y4⟩, yz0, yz1, yz2, yz3, yz4⟩ := cells5z b9
  obtain ⟨⟨e0', e1', e2', e3', e4'⟩, ez0, ez1, ez2, ez3, ez4⟩ := cells5z b9v
  rcases (show b % 3 = 0 ∨ b % 3 = 1 ∨ b % 3 = 2 by omega) with hbv | hbv | hbv
  · have hb3 : (b % 3 == 0) = true := by rw [hbv]; rfl
    have hb4 : (b % 3 == 1) = false := by rw [hbv]; rfl
    clear hbv
    have b10 : (World.setCell V9 ⟨w8.heap.size, 1, none⟩ (.int .i64 1)).heap[w8.heap.size]? = some (.cells #[.int .i64 2, .int .i64 1, .complex .f64 re 4607182418800017408, .string ⟨#[]⟩, .string ⟨#[]⟩] 39 (0, 0)) := by
      unfold World.setCell
      rw [Array.getElem?_modify, if_pos rfl, b9v]
      rfl
    have g10 : Fr (fun k => k = w8.heap.size) V9 (World.setCell V9 ⟨w8.heap.size, 1, none⟩ (.int .i64 1)) := (Fr.refl (fun k => k = w8.heap.size) V9).setCell (p := ⟨w8.heap.size, 1, none⟩) (fun _ => rfl) (.int .i64 1)
    have s10 : (World.setCell V9 ⟨w8.heap.size, 1, none⟩ (.int .i64 1)).heap.size = w8.heap.size + 1 := by rw [← s9v]; simp
    generalize hV10 : (World.setCell V9 ⟨w8.heap.size, 1, none⟩ (.int .i64 1)) = V10 at *
    have g10' : Fr no w8 V10 := g9'.trans g10 (fun _ _ f => f) (fun i hi e => by omega)
    obtain ⟨⟨h0, h1, h2, h3, h4⟩, -⟩ := cells5z b10
    have b11 := heap_alloc_new V10 (.cells #[.int .i64 2, .int .i64 1, .complex .f64 re 4607182418800017408, .string ⟨#[]⟩, .string ⟨#[]⟩] 39)
    have g11 : Fr no V10 (V10.alloc (.cells #[.int .i64 2, .int .i64 1, .complex .f64 re 4607182418800017408, .string ⟨#[]⟩, .string ⟨#[]⟩] 39)) := (Fr.refl no V10).alloc _ _
    rw [s10] at b11
    generalize hW11 : V10.alloc (.cells #[.int .i64 2, .int .i64 1, .complex .f64 re 4607182418800017408, .string ⟨#[]⟩, .string ⟨#[]⟩] 39) = W11 at *
    have bx11 := g11.heap (g10'.heap H8.out.2.1 (fun f => f)) (fun f => f)
    obtain ⟨⟨i0, i1, i2, i3, i4⟩, iz0, iz1, iz2, iz3, iz4⟩ := cells5z bx11
    have g12 : Fr (fun k => k = w2.heap.size) W11 (World.setCell W11 ⟨w2.heap.size, 2, none⟩ (.slice (some ⟨w8.heap.size + 1, 0, none⟩) 1 1)) := (Fr.refl (fun k => k = w2.heap.size) W11).setCell (p := ⟨w2.heap.size, 2, none⟩) (fun _ => rfl) _
    have bx12 : (World.setCell W11 ⟨w2.heap.size, 2, none⟩ (.slice (some ⟨w8.heap.size + 1, 0, none⟩) 1 1)).heap[w2.heap.size]? = some (.cells #[.string ⟨#[77, 97, 105, 110]⟩, .string ⟨#[]⟩, .slice (some ⟨w8.heap.size + 1, 0, none⟩) 1 1, .slice none 0 0, .slice (some ⟨r, 0, none⟩) 1 1] 28 (0, 0)) := by
      unfold World.setCell
      rw [Array.getElem?_modify, if_pos rfl, bx11]
      rfl
    generalize hV12 : World.setCell W11 ⟨w2.heap.size, 2, none⟩ (.slice (some ⟨w8.heap.size + 1, 0, none⟩) 1 1) = V12 at *
    obtain ⟨⟨j0, j1, j2, j3, j4⟩, -⟩ := cells5z bx12
    have hq12 := g12.heap (g11.heap (g10'.heap H8.out.2.2.1 (fun f => f)) (fun f => f)) (fun e => by omega)
    have hr12 := g12.heap (g11.heap (g10'.heap H8.out.2.2.2 (fun f => f)) (fun f => f)) (fun e => by omega)
    have fw12 : Fr no w V12 := ((H8.out.1.new g10' (fun _ _ f => f)).new g11 (fun _ _ f => f)).trans g12 (fun _ _ f => f) (fun i hi e => by omega)
    have CB : ClAt V12 (ctK (w8.heap.size + 1) r) (ctC (⟨2, 1, re, 4607182418800017408, ⟨#[]⟩, ⟨#[]⟩⟩ : Cs)) := ct_at (x := (⟨2, 1, re, 4607182418800017408, ⟨#[]⟩, ⟨#[]⟩⟩ : Cs)) (g12.heap b11 (fun e => by omega)) hq12 hr12
    have C := check_any V12 (HTR.out V12 fw12).1 (HTR.out V12 fw12).2 _ _ CB (ct_fitC (⟨2, 1, re, 4607182418800017408, ⟨#[]⟩, ⟨#[]⟩⟩ : Cs) (show 0 ≤ 20 by decide) (show 0 ≤ 20 by decide))
    rw [ct_chk, show ckCs (⟨2, 1, re, 4607182418800017408, ⟨#[]⟩, ⟨#[]⟩⟩ : Cs) = 51 from by simp [ckCs, e0]] at C
    unfold ksV ctK e0 at C
    simp only [] at C
    clear CB hq12 hr12 bx12 g12 bx11 g11 b11 g10' g10 b10 g9' g9v b9v g9 b9
    go_wp2_with fail
    refine C.mono ?_
    rintro x w13 ⟨rfl, f13⟩
    go_wp2_with fail
    go_ret
    exact ⟨rfl, fw12.new f13 (fun _ _ f => f)⟩
  · have hb3 : (b % 3 == 0) = false := by rw [hbv]; rfl
    have hb4 : (b % 3 == 1) = true := by rw [hbv]; rfl
    clear hbv
    have b10 : (World.setCell V9 ⟨w8.heap.size, 4, none⟩ (.string ⟨#[120]⟩)).heap[w8.heap.size]? = some (.cells #[.int .i64 2, .int .i64 0, .complex .f64 re 4607182418800017408, .string ⟨#[]⟩, .string ⟨#[120]⟩] 39 (0, 0)) := by
      unfold World.setCell
      rw [Array.getElem?_modify, if_pos rfl, b9v]
      rfl
    have g10 : Fr (fun k => k = w8.heap.size) V9 (World.setCell V9 ⟨w8.heap.size, 4, none⟩ (.string ⟨#[120]⟩)) := (Fr.refl (fun k => k = w8.heap.size) V9).setCell (p := ⟨w8.heap.size, 4, none⟩) (fun _ => rfl) (.string ⟨#[120]⟩)
    have s10 : (World.setCell V9 ⟨w8.heap.size, 4, none⟩ (.string ⟨#[120]⟩)).heap.size = w8.heap.size + 1 := by rw [← s9v]; simp
    generalize hV10 : (World.setCell V9 ⟨w8.heap.size, 4, none⟩ (.string ⟨#[120]⟩)) = V10 at *
    have g10' : Fr no w8 V10 := g9'.trans g10 (fun _ _ f => f) (fun i hi e => by omega)
    obtain ⟨⟨h0, h1, h2, h3, h4⟩, -⟩ := cells5z b10
    have b11 := heap_alloc_new V10 (.cells #[.int .i64 2, .int .i64 0, .complex .f64 re 4607182418800017408, .string ⟨#[]⟩, .string ⟨#[120]⟩] 39)
    have g11 : Fr no V10 (V10.alloc (.cells #[.int .i64 2, .int .i64 0, .complex .f64 re 4607182418800017408, .string ⟨#[]⟩, .string ⟨#[120]⟩] 39)) := (Fr.refl no V10).alloc _ _
    rw [s10] at b11
    generalize hW11 : V10.alloc (.cells #[.int .i64 2, .int .i64 0, .complex .f64 re 4607182418800017408, .string ⟨#[]⟩, .string ⟨#[120]⟩] 39) = W11 at *
    have bx11 := g11.heap (g10'.heap H8.out.2.1 (fun f => f)) (fun f => f)
    obtain ⟨⟨i0, i1, i2, i3, i4⟩, iz0, iz1, iz2, iz3, iz4⟩ := cells5z bx11
    have g12 : Fr (fun k => k = w2.heap.size) W11 (World.setCell W11 ⟨w2.heap.size, 2, none⟩ (.slice (some ⟨w8.heap.size + 1, 0, none⟩) 1 1)) := (Fr.refl (fun k => k = w2.heap.size) W11).setCell (p := ⟨w2.heap.size, 2, none⟩) (fun _ => rfl) _
    have bx12 : (World.setCell W11 ⟨w2.heap.size, 2, none⟩ (.slice (some ⟨w8.heap.size + 1, 0, none⟩) 1 1)).heap[w2.heap.size]? = some (.cells #[.string ⟨#[77, 97, 105, 110]⟩, .string ⟨#[]⟩, .slice (some ⟨w8.heap.size + 1, 0, none⟩) 1 1, .slice none 0 0, .slice (some ⟨r, 0, none⟩) 1 1] 28 (0, 0)) := by
      unfold World.setCell
      rw [Array.getElem?_modify, if_pos rfl, bx11]
      rfl
    generalize hV12 : World.setCell W11 ⟨w2.heap.size, 2, none⟩ (.slice (some ⟨w8.heap.size + 1, 0, none⟩) 1 1) = V12 at *
    obtain ⟨⟨j0, j1, j2, j3, j4⟩, -⟩ := cells5z bx12
    have hq12 := g12.heap (g11.heap (g10'.heap H8.out.2.2.1 (fun f => f)) (fun f => f)) (fun e => by omega)
    have hr12 := g12.heap (g11.heap (g10'.heap H8.out.2.2.2 (fun f => f)) (fun f => f)) (fun e => by omega)
    have fw12 : Fr no w V12 := ((H8.out.1.new g10' (fun _ _ f => f)).new g11 (fun _ _ f => f)).trans g12 (fun _ _ f => f) (fun i hi e => by omega)
    have CB : ClAt V12 (ctK (w8.heap.size + 1) r) (ctC (⟨2, 0, re, 4607182418800017408, ⟨#[]⟩, ⟨#[120]⟩⟩ : Cs)) := ct_at (x := (⟨2, 0, re, 4607182418800017408, ⟨#[]⟩, ⟨#[120]⟩⟩ : Cs)) (g12.heap b11 (fun e => by omega)) hq12 hr12
    have C := check_any V12 (HTR.out V12 fw12).1 (HTR.out V12 fw12).2 _ _ CB (ct_fitC (⟨2, 0, re, 4607182418800017408, ⟨#[]⟩, ⟨#[120]⟩⟩ : Cs) (show 0 ≤ 20 by decide) (show 1 ≤ 20 by decide))
    rw [ct_chk, show ckCs (⟨2, 0, re, 4607182418800017408, ⟨#[]⟩, ⟨#[120]⟩⟩ : Cs) = 51 from by simp [ckCs, e0]] at C
    unfold ksV ctK e0 at C
    simp only [] at C
    clear CB hq12 hr12 bx12 g12 bx11 g11 b11 g10' g10 b10 g9' g9v b9v g9 b9
    go_wp2_with fail
    refine C.mono ?_
    rintro x w13 ⟨rfl, f13⟩
    go_wp2_with fail
    go_ret
    exact ⟨rfl, fw12.new f13 (fun _ _ f => f)⟩
  · have hb3 : (b % 3 == 0) = false := by rw [hbv]; rfl
    have hb4 : (b % 3 == 1) = false := by rw [hbv]; rfl
    clear hbv
    have b10 : (World.setCell V9 ⟨w8.heap.size, 4, none⟩ (.string ⟨#[120]⟩)).heap[w8.heap.size]? = some (.cells #[.int .i64 2, .int .i64 0, .complex .f64 re 4607182418800017408, .string ⟨#[]⟩, .string ⟨#[120]⟩] 39 (0, 0)) := by
      unfold World.setCell
      rw [Array.getElem?_modify, if_pos rfl, b9v]
      rfl
    have g10 : Fr (fun k => k = w8.heap.size) V9 (World.setCell V9 ⟨w8.heap.size, 4, none⟩ (.string ⟨#[120]⟩)) := (Fr.refl (fun k => k = w8.heap.size) V9).setCell (p := ⟨w8.heap.size, 4, none⟩) (fun _ => rfl) (.string ⟨#[120]⟩)
    have s10 : (World.setCell V9 ⟨w8.heap.size, 4, none⟩ (.string ⟨#[120]⟩)).heap.size = w8.heap.size + 1 := by rw [← s9v]; simp
    generalize hV10 : (World.setCell V9 ⟨w8.heap.size, 4, none⟩ (.string ⟨#[120]⟩)) = V10 at *
    have g10' : Fr no w8 V10 := g9'.trans g10 (fun _ _ f => f) (fun i hi e => by omega)
    obtain ⟨⟨h0, h1, h2, h3, h4⟩, -⟩ := cells5z b10
    have b11 := heap_alloc_new V10 (.cells #[.int .i64 2, .int .i64 0, .complex .f64 re 4607182418800017408, .string ⟨#[]⟩, .string ⟨#[120]⟩] 39)
    have g11 : Fr no V10 (V10.alloc (.cells #[.int .i64 2, .int .i64 0, .complex .f64 re 4607182418800017408, .string ⟨#[]⟩, .string ⟨#[120]⟩] 39)) := (Fr.refl no V10).alloc _ _
    rw [s10] at b11
    generalize hW11 : V10.alloc (.cells #[.int .i64 2, .int .i64 0, .complex .f64 re 4607182418800017408, .string ⟨#[]⟩, .string ⟨#[120]⟩] 39) = W11 at *
    have bx11 := g11.heap (g10'.heap H8.out.2.1 (fun f => f)) (fun f => f)
    obtain ⟨⟨i0, i1, i2, i3, i4⟩, iz0, iz1, iz2, iz3, iz4⟩ := cells5z bx11
    have g12 : Fr (fun k => k = w2.heap.size) W11 (World.setCell W11 ⟨w2.heap.size, 2, none⟩ (.slice (some ⟨w8.heap.size + 1, 0, none⟩) 1 1)) := (Fr.refl (fun k => k = w2.heap.size) W11).setCell (p := ⟨w2.heap.size, 2, none⟩) (fun _ => rfl) _
    have bx12 : (World.setCell W11 ⟨w2.heap.size, 2, none⟩ (.slice (some ⟨w8.heap.size + 1, 0, none⟩) 1 1)).heap[w2.heap.size]? = some (.cells #[.string ⟨#[77, 97, 105, 110]⟩, .string ⟨#[]⟩, .slice (some ⟨w8.heap.size + 1, 0, none⟩) 1 1, .slice none 0 0, .slice (some ⟨r, 0, none⟩) 1 1] 28 (0, 0)) := by
      unfold World.setCell
      rw [Array.getElem?_modify, if_pos rfl, bx11]
      rfl
    generalize hV12 : World.setCell W11 ⟨w2.heap.size, 2, none⟩ (.slice (some ⟨w8.heap.size + 1, 0, none⟩) 1 1) = V12 at *
    obtain ⟨⟨j0, j1, j2, j3, j4⟩, -⟩ := cells5z bx12
    have hq12 := g12.heap (g11.heap (g10'.heap H8.out.2.2.1 (fun f => f)) (fun f => f)) (fun e => by omega)
    have hr12 := g12.heap (g11.heap (g10'.heap H8.out.2.2.2 (fun f => f)) (fun f => f)) (fun e => by omega)
    have fw12 : Fr no w V12 := ((H8.out.1.new g10' (fun _ _ f => f)).new g11 (fun _ _ f => f)).trans g12 (fun _ _ f => f) (fun i hi e => by omega)
    have CB : ClAt V12 (ctK (w8.heap.size + 1) r) (ctC (⟨2, 0, re, 4607182418800017408, ⟨#[]⟩, ⟨#[120]⟩⟩ : Cs)) := ct_at (x := (⟨2, 0, re, 4607182418800017408, ⟨#[]⟩, ⟨#[120]⟩⟩ : Cs)) (g12.heap b11 (fun e => by omega)) hq12 hr12
    have C := check_any V12 (HTR.out V12 fw12).1 (HTR.out V12 fw12).2 _ _ CB (ct_fitC (⟨2, 0, re, 4607182418800017408, ⟨#[]⟩, ⟨#[120]⟩⟩ : Cs) (show 0 ≤ 20 by decide) (show 1 ≤ 20 by decide))
    rw [ct_chk, show ckCs (⟨2, 0, re, 4607182418800017408, ⟨#[]⟩, ⟨#[120]⟩⟩ : Cs) = 51 from by simp [ckCs, e0]] at C
    unfold ksV ctK e0 at C
    simp only [] at C
    clear CB hq12 hr12 bx12 g12 bx11 g11 b11 g10' g10 b10 g9' g9v b9v g9 b9
    go_wp2_with fail
    refine C.mono ?_
    rintro x w13 ⟨rfl, f13⟩
    go_wp2_with fail
    go_ret
    exact ⟨rfl, fw12.new f13 (fun _ _ f => f)⟩

set_option maxRecDepth 100000 in
set_option maxHeartbeats 8000000 in
theorem consts3 (w : World) (T : Tb w) (R : Tr w) (a : Int) (ha0 : 0 ≤ a) (ha1 : a ≤ 255) (n : Int) (b : Int) (hb0 : 0 ≤ b) (hb1 : b ≤ 255) (hav : a % 5 = 2) : Calls Tryz.prog 4 #[.int .u8 a, .int .i64 n, .int .u8 b] w fun e w' => e = .returned (.bool true) ∧ Fr no w w' := by
  have hstc := run_store_cx
  have HTR : Hid (∀ w1, Fr no w w1 → Tb w1 ∧ Tr w1) := fun w1 f => ⟨T.kept f, R.kept f⟩
  have KN := known_any w T R
  clear T R
  go_enter Tryz.func4, Tryz.ntmps4
  go_wp2_with fail
  refine KN.mono ?_
  rintro x w1 ⟨rfl, f1⟩
  go_wp2_with fail
  refine (small_any w1).mono ?_
  rintro x w2 ⟨q, r, rfl, hqs, hrs, hne, hq, hr, f2⟩
  have fw2 := f1.new f2 (fun _ _ f => f)
  have hltq : q < w2.heap.size := ltHeap hq
  have hltr : r < w2.heap.size := ltHeap hr
  have b2 := heap_alloc_new w2 (.cells #[.string ⟨#[]⟩, .string ⟨#[]⟩, .slice none 0 0, .slice none 0 0, .slice none 0 0] 28)
  have s2 := size_alloc w2 (.cells #[.string ⟨#[]⟩, .string ⟨#[]⟩, .slice none 0 0, .slice none 0 0, .slice none 0 0] 28)
  have g2 : Fr no w2 (w2.alloc (.cells #[.string ⟨#[]⟩, .string ⟨#[]⟩, .slice none 0 0, .slice none 0 0, .slice none 0 0] 28)) := (Fr.refl no w2).alloc _ _
  generalize hW2 : w2.alloc (.cells #[.string ⟨#[]⟩, .string ⟨#[]⟩, .slice none 0 0, .slice none 0 0, .slice none 0 0] 28) = W2 at *
  have b2v : (World.setCell (World.setCell (World.setCell (World.setCell (World.setCell W2 ⟨w2.heap.size, 0, none⟩ (.string ⟨#[77, 97, 105, 110]⟩)) ⟨w2.heap.size, 1, none⟩ (.string ⟨#[]⟩)) ⟨w2.heap.size, 2, none⟩ (.slice none 0 0)) ⟨w2.heap.size, 3, none⟩ (.slice none 0 0)) ⟨w2.heap.size, 4, none⟩ (.slice (some ⟨r, 0, none⟩) 1 1)).heap[w2.heap.size]? = some (.cells #[.string ⟨#[77, 97, 105, 110]⟩, .string ⟨#[]⟩, .slice none 0 0, .slice none 0 0, .slice (some ⟨r, 0, none⟩) 1 1] 28 (0, 0)) := set_chain5 b2
  have g2v := fr_chain5 W2 w2.heap.size (.string ⟨#[77, 97, 105, 110]⟩) (.string ⟨#[]⟩) (.slice none 0 0) (.slice none 0 0) (.slice (some ⟨r, 0, none⟩) 1 1)
  have s2v : (World.setCell (World.setCell (World.setCell (World.setCell (World.setCell W2 ⟨w2.heap.size, 0, none⟩ (.string ⟨#[77, 97, 105, 110]⟩)) ⟨w2.heap.size, 1, none⟩ (.string ⟨#[]⟩)) ⟨w2.heap.size, 2, none⟩ (.slice none 0 0)) ⟨w2.heap.size, 3, none⟩ (.slice none 0 0)) ⟨w2.heap.size, 4, none⟩ (.slice (some ⟨r, 0, none⟩) 1 1)).heap.size = w2.heap.size + 1 := by rw [← s2]; simp
  generalize hV2 : (World.setCell (World.setCell (World.setCell (World.setCell (World.setCell W2 ⟨w2.heap.size, 0, none⟩ (.string ⟨#[77, 97, 105, 110]⟩)) ⟨w2.heap.size, 1, none⟩ (.string ⟨#[]⟩)) ⟨w2.heap.size, 2, none⟩ (.slice none 0 0)) ⟨w2.heap.size, 3, none⟩ (.slice none 0 0)) ⟨w2.heap.size, 4, none⟩ (.slice (some ⟨r, 0, none⟩) 1 1)) = V2 at *
  have g2' : Fr no w2 V2 := g2.trans g2v (fun _ _ f => f) (fun i hi e => by omega)
  obtain ⟨⟨c0, c1, c2, c3, c4⟩, z0, z1, z2, z3, z4⟩ := cells5z b2
  have fw := fw2.new g2' (fun _ _ f => f)
  have HS : Hid (Fr no w V2 ∧ V2.heap[w2.heap.size]? = some (.cells #[.string ⟨#[77, 97, 105, 110]⟩, .string ⟨#[]⟩, .slice none 0 0, .slice none 0 0, .slice (some ⟨r, 0, none⟩) 1 1] 28 (0, 0)) ∧ V2.heap[r]? = some (.cells #[.string ⟨#[109, 97, 105, 110]⟩, .slice none 0 0, .int .i64 0, .string ⟨#[]⟩, .int .i64 1, .int .i64 0, .slice (some ⟨q, 0, none⟩) 1 1, .slice none 0 0] 53 (0, 0)) ∧ V2.heap[q]? = some (.cells #[.int .i64 33, .int .i64 0] 57 (0, 0))) := ⟨fw, b2v, g2'.heap hr (fun f => f), g2'.heap hq (fun f => f)⟩
  have hPw : w.heap.size ≤ w2.heap.size := fw2.size
  clear fw g2 g2' g2v b2 b2v fw2 f1 f2 hq hr KN hqs hrs
  have b3 := heap_alloc_new V2 (.cells #[.int .i64 0, .int .i64 0, .complex .f64 0 0, .string ⟨#[]⟩, .string ⟨#[]⟩] 39)
  have s3 := size_alloc V2 (.cells #[.int .i64 0, .int .i64 0, .complex .f64 0 0, .string ⟨#[]⟩, .string ⟨#[]⟩] 39)
  have g3 : Fr no V2 (V2.alloc (.cells #[.int .i64 0, .int .i64 0, .complex .f64 0 0, .string ⟨#[]⟩, .string ⟨#[]⟩] 39)) := (Fr.refl no V2).alloc _ _
  rw [s2v] at b3 s3
  generalize hW3 : V2.alloc (.cells #[.int .i64 0, .int .i64 0, .complex .f64 0 0, .string ⟨#[]⟩, .string ⟨#[]⟩] 39) = W3 at *
  obtain ⟨⟨y0, y1, y2, y3, y4⟩, yz0, yz1, yz2, yz3, yz4⟩ := cells5z b3
  have b3v : (World.setCell (World.setCell (World.setCell (World.setCell (World.setCell W3 ⟨w2.heap.size + 1, 0, none⟩ (.int .i64 3)) ⟨w2.heap.size + 1, 1, none⟩ (.int .i64 0)) ⟨w2.heap.size + 1, 2, none⟩ (.complex .f64 0 0)) ⟨w2.heap.size + 1, 3, none⟩ (.string ⟨#[]⟩)) ⟨w2.heap.size + 1, 4, none⟩ (.string ⟨#[]⟩)).heap[w2.heap.size + 1]? = some (.cells #[.int .i64 3, .int .i64 0, .complex .f64 0 0, .string ⟨#[]⟩, .string ⟨#[]⟩] 39 (0, 0)) := set_chain5 b3
  have g3v := fr_chain5 W3 (w2.heap.size + 1) (.int .i64 3) (.int .i64 0) (.complex .f64 0 0) (.string ⟨#[]⟩) (.string ⟨#[]⟩)
  have s3v : (World.setCell (World.setCell (World.setCell (World.setCell (World.setCell W3 ⟨w2.heap.size + 1, 0, none⟩ (.int .i64 3)) ⟨w2.heap.size + 1, 1, none⟩ (.int .i64 0)) ⟨w2.heap.size + 1, 2, none⟩ (.complex .f64 0 0)) ⟨w2.heap.size + 1, 3, none⟩ (.string ⟨#[]⟩)) ⟨w2.heap.size + 1, 4, none⟩ (.string ⟨#[]⟩)).heap.size = w2.heap.size + 1 + 1 := by rw [← s3]; simp
  generalize hV3 : (World.setCell (World.setCell (World.setCell (World.setCell (World.setCell W3 ⟨w2.heap.size + 1, 0, none⟩ (.int .i64 3)) ⟨w2.heap.size + 1, 1, none⟩ (.int .i64 0)) ⟨w2.heap.size + 1, 2, none⟩ (.complex .f64 0 0)) ⟨w2.heap.size + 1, 3, none⟩ (.string ⟨#[]⟩)) ⟨w2.heap.size + 1, 4, none⟩ (.string ⟨#[]⟩)) = V3 at *
  have g3' : Fr no V2 V3 := g3.trans g3v (fun _ _ f => f) (fun i hi e => by omega)
  obtain ⟨⟨e0', e1', e2', e3', e4'⟩, ez0, ez1, ez2, ez3, ez4⟩ := cells5z b3v
  have b4 : (World.setCell V3 ⟨w2.heap.size + 1, 3, none⟩ (.string ⟨#[77, 97, 105, 110]⟩)).heap[w2.heap.size + 1]? = some (.cells #[.int .i64 3, .int .i64 0, .complex .f64 0 0, .string ⟨#[77, 97, 105, 110]⟩, .string ⟨#[]⟩] 39 (0, 0)) := by
    have hs0 : (World.setCell V3 ⟨w2.heap.size + 1, 3, none⟩ (.string ⟨#[77, 97, 105, 110]⟩)).heap[w2.heap.size + 1]? = some (.cells #[.int .i64 3, .int .i64 0, .complex .f64 0 0, .string ⟨#[77, 97, 105, 110]⟩, .string ⟨#[]⟩] 39 (0, 0)) := by
      unfold World.setCell
      rw [Array.getElem?_modify, if_pos rfl, b3v]
      rfl
    exact hs0
  have g4 : Fr (fun k => k = w2.heap.size + 1) V3 (World.setCell V3 ⟨w2.heap.size + 1, 3, none⟩ (.string ⟨#[77, 97, 105, 110]⟩)) := ((Fr.refl (fun k => k = w2.heap.size + 1) V3).setCell (p := ⟨w2.heap.size + 1, 3, none⟩) (fun _ => rfl) (.string ⟨#[77, 97, 105, 110]⟩))
  have s4 : (World.setCell V3 ⟨w2.heap.size + 1, 3, none⟩ (.string ⟨#[77, 97, 105, 110]⟩)).heap.size = w2.heap.size + 1 + 1 := by rw [← s3v]; simp
  generalize hV4 : (World.setCell V3 ⟨w2.heap.size + 1, 3, none⟩ (.string ⟨#[77, 97, 105, 110]⟩)) = V4 at *
  have g4' : Fr no V2 V4 := g3'.trans g4 (fun _ _ f => f) (fun i hi e => by omega)
  obtain ⟨⟨h0, h1, h2, h3, h4⟩, -⟩ := cells5z b4
  have b5 := heap_alloc_new V4 (.cells #[.int .i64 3, .int .i64 0, .complex .f64 0 0, .string ⟨#[77, 97, 105, 110]⟩, .string ⟨#[]⟩] 39)
  have g5 : Fr no V4 (V4.alloc (.cells #[.int .i64 3, .int .i64 0, .complex .f64 0 0, .string ⟨#[77, 97, 105, 110]⟩, .string ⟨#[]⟩] 39)) := (Fr.refl no V4).alloc _ _
  rw [s4] at b5
  generalize hW5 : V4.alloc (.cells #[.int .i64 3, .int .i64 0, .complex .f64 0 0, .string ⟨#[77, 97, 105, 110]⟩, .string ⟨#[]⟩] 39) = W5 at *
  have bx5 := g5.heap (g4'.heap HS.out.2.1 (fun f => f)) (fun f => f)
  obtain ⟨⟨i0, i1, i2, i3, i4⟩, iz0, iz1, iz2, iz3, iz4⟩ := cells5z bx5
  have g6 : Fr (fun k => k = w2.heap.size) W5 (World.setCell W5 ⟨w2.heap.size, 2, none⟩ (.slice (some ⟨w2.heap.size + 1 + 1, 0, none⟩) 1 1)) := (Fr.refl (fun k => k = w2.heap.size) W5).setCell (p := ⟨w2.heap.size, 2, none⟩) (fun _ => rfl) _
  have bx6 : (World.setCell W5 ⟨w2.heap.size, 2, none⟩ (.slice (some ⟨w2.heap.size + 1 + 1, 0, none⟩) 1 1)).heap[w2.heap.size]? = some (.cells #[.string ⟨#[77, 97, 105, 110]⟩, .string ⟨#[]⟩, .slice (some ⟨w2.heap.size + 1 + 1, 0, none⟩) 1 1, .slice none 0 0, .slice (some ⟨r, 0, none⟩) 1 1] 28 (0, 0)) := by
    unfold World.setCell
    rw [Array.getElem?_modify, if_pos rfl, bx5]
    rfl
  generalize hV6 : World.setCell W5 ⟨w2.heap.size, 2, none⟩ (.slice (some ⟨w2.heap.size + 1 + 1, 0, none⟩) 1 1) = V6 at *
  obtain ⟨⟨j0, j1, j2, j3, j4⟩, -⟩ := cells5z bx6
  have f26 : Fr (fun k => k = w2.heap.size) V2 V6 := (g4'.new g5 (fun _ _ f => f)).trans g6 (fun _ _ f => f.elim) (fun _ _ e => e)
  have hck : ckCs (⟨3, 0, 0, 0, ⟨#[77, 97, 105, 110]⟩, ⟨#[]⟩⟩ : Cs) = 0 := by decide
  have hfitx : FitK (ctC (⟨3, 0, 0, 0, ⟨#[77, 97, 105, 110]⟩, ⟨#[]⟩⟩ : Cs)) := ct_fit _ ⟨show (-9223372036854775808 : Int) ≤ 0 by decide, show (0 : Int) ≤ 9223372036854775807 by decide, show (0 : Nat) < 2 ^ 64 by decide, show (0 : Nat) < 2 ^ 64 by decide⟩ (show 4 ≤ 20 by decide) (show 0 ≤ 20 by decide)
  have HV6 : Hid (Fr no w V6 ∧ V6.heap[w2.heap.size + 1]? = some (.cells #[.int .i64 3, .int .i64 0, .complex .f64 0 0, .string ⟨#[77, 97, 105, 110]⟩, .string ⟨#[]⟩] 39 (0, 0)) ∧ V6.heap[w2.heap.size]? = some (.cells #[.string ⟨#[77, 97, 105, 110]⟩, .string ⟨#[]⟩, .slice (some ⟨w2.heap.size + 1 + 1, 0, none⟩) 1 1, .slice none 0 0, .slice (some ⟨r, 0, none⟩) 1 1] 28 (0, 0)) ∧ V6.heap[q]? = some (.cells #[.int .i64 33, .int .i64 0] 57 (0, 0)) ∧ V6.heap[r]? = some (.cells #[.string ⟨#[109, 97, 105, 110]⟩, .slice none 0 0, .int .i64 0, .string ⟨#[]⟩, .int .i64 1, .int .i64 0, .slice (some ⟨q, 0, none⟩) 1 1, .slice none 0 0] 53 (0, 0)) ∧ ClAt V6 (ctK (w2.heap.size + 1 + 1) r) (ctC (⟨3, 0, 0, 0, ⟨#[77, 97, 105, 110]⟩, ⟨#[]⟩⟩ : Cs))) :=
    have h1 := f26.heap HS.out.2.2.2 (fun e => by omega)
    have h2 := f26.heap HS.out.2.2.1 (fun e => by omega)
    ⟨HS.out.1.trans f26 (fun _ _ f => f) (fun i hi e => by omega), g6.heap (g5.heap b4 (fun f => f)) (fun e => by omega), bx6, h1, h2, ct_at (x := (⟨3, 0, 0, 0, ⟨#[77, 97, 105, 110]⟩, ⟨#[]⟩⟩ : Cs)) (g6.heap b5 (fun e => by omega)) h1 h2⟩
  have E := encode_any V6 (HTR.out V6 HV6.out.1).1 (HTR.out V6 HV6.out.1).2 _ _ HV6.out.2.2.2.2.2 hfitx
  rw [(ct_ec _ hck).1, (ct_ec _ hck).2] at E
  unfold ksV ctK e0 at E
  simp only [] at E
  have HC : Hid (ckCs (⟨3, 0, 0, 0, ⟨#[77, 97, 105, 110]⟩, ⟨#[]⟩⟩ : Cs) = 0 ∧ FitK (ctC (⟨3, 0, 0, 0, ⟨#[77, 97, 105, 110]⟩, ⟨#[]⟩⟩ : Cs))) := ⟨hck, hfitx⟩
  clear hck hfitx f26 bx6 g6 bx5 g5 b5 g4' g4 b4 g3' g3v b3v
  go_wp2_with fail
  clear s2 s2v s3 s3v s4 hW2 hV2 c0 c1 c2 c3 c4 z0 z1 z2 z3 z4 hW3 hV3 hV4 hW5 hV6 y0 y1 y2 y3 y4 yz0 yz1 yz2 yz3 yz4 e0' e1' e2' e3' e4' ez0 ez1 ez2 ez3 ez4 h0 h1 h2 h3 h4 i0 i1 i2 i3 i4 iz0 iz1 iz2 iz3 iz4 j0 j1 j2 j3 j4
  refine E.mono ?_
  rintro x w6 ⟨v6, rfl, o6, f6⟩
  clear E
  have fw6 := HV6.out.1.new f6 (fun _ _ f => f)
  have D := decode_any w6 (HTR.out w6 fw6).1 (HTR.out w6 fw6).2 v6 _ o6.sl (ct_by _ ⟨show (0 : Int) ≤ 3 by decide, show (3 : Int) ≤ 255 by decide⟩) (Nat.le_trans (ct_len _ (ct_v _ HC.out.1)) (by decide))
  rw [(ct_dec _ HC.out.1 HC.out.2).1, (ct_dec _ HC.out.1 HC.out.2).2] at D
  obtain ⟨va, vl, vc, ev⟩ := o6.form
  subst ev
  clear o6
  go_wp2_with fail
  refine D.mono ?_
  rintro x w7 ⟨⟨kn, ks, kp, kf, km⟩, rfl, hcl, f7⟩
  clear D
  have b7 := heap_alloc_new w7 (.cells #[.string ⟨#[]⟩, .string ⟨#[]⟩, .slice none 0 0, .slice none 0 0, .slice none 0 0] 28)
  have s7 := size_alloc w7 (.cells #[.string ⟨#[]⟩, .string ⟨#[]⟩, .slice none 0 0, .slice none 0 0, .slice none 0 0] 28)
  have g7 : Fr no w7 (w7.alloc (.cells #[.string ⟨#[]⟩, .string ⟨#[]⟩, .slice none 0 0, .slice none 0 0, .slice none 0 0] 28)) := (Fr.refl no w7).alloc _ _
  generalize hW7 : w7.alloc (.cells #[.string ⟨#[]⟩, .string ⟨#[]⟩, .slice none 0 0, .slice none 0 0, .slice none 0 0] 28) = W7 at *
  have b7v : (World.setCell (World.setCell (World.setCell (World.setCell (World.setCell W7 ⟨w7.heap.size, 0, none⟩ (.string kn)) ⟨w7.heap.size, 1, none⟩ (.string ks)) ⟨w7.heap.size, 2, none⟩ (.slice kp.a kp.n kp.c)) ⟨w7.heap.size, 3, none⟩ (.slice kf.a kf.n kf.c)) ⟨w7.heap.size, 4, none⟩ (.slice km.a km.n km.c)).heap[w7.heap.size]? = some (.cells #[.string kn, .string ks, .slice kp.a kp.n kp.c, .slice kf.a kf.n kf.c, .slice km.a km.n km.c] 28 (0, 0)) := set_chain5 b7
  have g7v := fr_chain5 W7 w7.heap.size (.string kn) (.string ks) (.slice kp.a kp.n kp.c) (.slice kf.a kf.n kf.c) (.slice km.a km.n km.c)
  generalize hV7 : (World.setCell (World.setCell (World.setCell (World.setCell (World.setCell W7 ⟨w7.heap.size, 0, none⟩ (.string kn)) ⟨w7.heap.size, 1, none⟩ (.string ks)) ⟨w7.heap.size, 2, none⟩ (.slice kp.a kp.n kp.c)) ⟨w7.heap.size, 3, none⟩ (.slice kf.a kf.n kf.c)) ⟨w7.heap.size, 4, none⟩ (.slice km.a km.n km.c)) = V7 at *
  have g7' : Fr no w7 V7 := g7.trans g7v (fun _ _ f => f) (fun i hi e => by omega)
  obtain ⟨⟨c0, c1, c2, c3, c4⟩, z0, z1, z2, z3, z4⟩ := cells5z b7
  obtain ⟨⟨d0, d1, d2, d3, d4⟩, -⟩ := cells5z b7v
  have f67 : Fr no V6 V7 := (f6.new f7 (fun _ _ f => f)).new g7' (fun _ _ f => f)
  obtain ⟨⟨p0, p1, p2, p3, p4⟩, -⟩ := cells5z (f67.heap HV6.out.2.2.1 (fun f => f))
  have S := same_any V7 (ctK (w2.heap.size + 1 + 1) r) ⟨kn, ks, kp, kf, km⟩ _ (HV6.out.2.2.2.2.2.kept f67) (hcl.kept g7')
  unfold ksV ctK e0 at S
  simp only [] at S
  have HF67 : Hid (Fr no V6 V7) := f67
  unfold ksV
  simp only []
  clear f67 g7' g7v b7v g7 b7 hcl f7 f6 fw6
  go_wp2_with fail
  clear hW7 hV7 c0 c1 c2 c3 c4 z0 z1 z2 z3 z4 d0 d1 d2 d3 d4 p0 p1 p2 p3 p4 s7
  refine S.mono ?_
  rintro x w8 ⟨rfl, f8⟩
  clear S
  have f68 : Fr no V6 w8 := HF67.out.new f8 (fun _ _ f => f)
  have hK8 := f68.heap HV6.out.2.1 (fun f => f)
  have hP8 := f68.heap HV6.out.2.2.1 (fun f => f)
  have hq8 := f68.heap HV6.out.2.2.2.1 (fun f => f)
  have hr8 := f68.heap HV6.out.2.2.2.2.1 (fun f => f)
  have fw8 := HV6.out.1.new f68 (fun _ _ f => f)
  have hlt8 : w2.heap.size < w8.heap.size := ltHeap hP8
  have hltq8 : q < w8.heap.size := ltHeap hq8
  have hltr8 : r < w8.heap.size := ltHeap hr8
  obtain ⟨⟨k0, k1, k2, k3, k4⟩, -⟩ := cells5z hK8
  have H8 : Hid (Fr no w w8 ∧ w8.heap[w2.heap.size]? = some (.cells #[.string ⟨#[77, 97, 105, 110]⟩, .string ⟨#[]⟩, .slice (some ⟨w2.heap.size + 1 + 1, 0, none⟩) 1 1, .slice none 0 0, .slice (some ⟨r, 0, none⟩) 1 1] 28 (0, 0)) ∧ w8.heap[q]? = some (.cells #[.int .i64 33, .int .i64 0] 57 (0, 0)) ∧ w8.heap[r]? = some (.cells #[.string ⟨#[109, 97, 105, 110]⟩, .slice none 0 0, .int .i64 0, .string ⟨#[]⟩, .int .i64 1, .int .i64 0, .slice (some ⟨q, 0, none⟩) 1 1, .slice none 0 0] 53 (0, 0))) := ⟨fw8, hP8, hq8, hr8⟩
  clear hK8 hP8 hq8 hr8 fw8 f68 f8 HV6 HF67
  have b9 := heap_alloc_new w8 (.cells #[.int .i64 0, .int .i64 0, .complex .f64 0 0, .string ⟨#[]⟩, .string ⟨#[]⟩] 39)
  have s9 := size_alloc w8 (.cells #[.int .i64 0, .int .i64 0, .complex .f64 0 0, .string ⟨#[]⟩, .string ⟨#[]⟩] 39)
  have g9 : Fr no w8 (w8.alloc (.cells #[.int .i64 0, .int .i64 0, .complex .f64 0 0, .string ⟨#[]⟩, .string ⟨#[]⟩] 39)) := (Fr.refl no w8).alloc _ _
  generalize hW9 : w8.alloc (.cells #[.int .i64 0, .int .i64 0, .complex .f64 0 0, .string ⟨#[]⟩, .string ⟨#[]⟩] 39) = W9 at *
  have b9v : (World.setCell (World.setCell (World.setCell (World.setCell (World.setCell W9 ⟨w8.heap.size, 0, none⟩ (.int .i64 3)) ⟨w8.heap.size, 1, none⟩ (.int .i64 0)) ⟨w8.heap.size, 2, none⟩ (.complex .f64 0 0)) ⟨w8.heap.size, 3, none⟩ (.string ⟨#[77, 97, 105, 110]⟩)) ⟨w8.heap.size, 4, none⟩ (.string ⟨#[]⟩)).heap[w8.heap.size]? = some (.cells #[.int .i64 3, .int .i64 0, .complex .f64 0 0, .string ⟨#[77, 97, 105, 110]⟩, .string ⟨#[]⟩] 39 (0, 0)) := set_chain5 b9
  have g9v := fr_chain5 W9 w8.heap.size (.int .i64 3) (.int .i64 0) (.complex .f64 0 0) (.string ⟨#[77, 97, 105, 110]⟩) (.string ⟨#[]⟩)
  have s9v : (World.setCell (World.setCell (World.setCell (World.setCell (World.setCell W9 ⟨w8.heap.size, 0, none⟩ (.int .i64 3)) ⟨w8.heap.size, 1, none⟩ (.int .i64 0)) ⟨w8.heap.size, 2, none⟩ (.complex .f64 0 0)) ⟨w8.heap.size, 3, none⟩ (.string ⟨#[77, 97, 105, 110]⟩)) ⟨w8.heap.size, 4, none⟩ (.string ⟨#[]⟩)).heap.size = w8.heap.size + 1 := by rw [← s9]; simp
  generalize hV9 : (World.setCell (World.setCell (World.setCell (World.setCell (World.setCell W9 ⟨w8.heap.size, 0, none⟩ (.int .i64 3)) ⟨w8.heap.size, 1, none⟩ (.int .i64 0)) ⟨w8.heap.size, 2, none⟩ (.complex .f64 0 0)) ⟨w8.heap.size, 3, none⟩ (.string ⟨#[77, 97, 105, 110]⟩)) ⟨w8.heap.size, 4, none⟩ (.string ⟨#[]⟩)) = V9 at *
  have g9' : Fr no w8 V9 := g9.trans g9v (fun _ _ f => f) (fun i hi e => by omega)
  obtain ⟨⟨y0, y1, y2, y3, y4⟩, yz0, yz1, yz2, yz3, yz4⟩ := cells5z b9
  obtain ⟨⟨e0', e1', e2', e3', e4'⟩, ez0, ez1, ez2, ez3, ez4⟩ := cells5z b9v
  rcases (show b % 3 = 0 ∨ b % 3 = 1 ∨ b % 3 = 2 by omega) with hbv | hbv | hbv
  · have hb3 : (b % 3 == 0) = true := by rw [hbv]; rfl
    have hb4 : (b % 3 == 1) = false := by rw [hbv]; rfl
    clear hbv
    have b10 : (World.setCell V9 ⟨w8.heap.size, 1, none⟩ (.int .i64 1)).heap[w8.heap.size]? = some (.cells #[.int .i64 3, .int .i64 1, .complex .f64 0 0, .string ⟨#[77, 97, 105, 110]⟩, .string ⟨#[]⟩] 39 (0, 0)) := by
      unfold World.setCell
      rw [Array.getElem?_modify, if_pos rfl, b9v]
      rfl
    have g10 : Fr (fun k => k = w8.heap.size) V9 (World.setCell V9 ⟨w8.heap.size, 1, none⟩ (.int .i64 1)) := (Fr.refl (fun k => k = w8.heap.size) V9).setCell (p := ⟨w8.heap.size, 1, none⟩) (fun _ => rfl) (.int .i64 1)
    have s10 : (World.setCell V9 ⟨w8.heap.size, 1, none⟩ (.int .i64 1)).heap.size = w8.heap.size + 1 := by rw [← s9v]; simp
    generalize hV10 : (World.setCell V9 ⟨w8.heap.size, 1, none⟩ (.int .i64 1)) = V10 at *
    have g10' : Fr no w8 V10 := g9'.trans g10 (fun _ _ f => f) (fun i hi e => by omega)
    obtain ⟨⟨h0, h1, h2, h3, h4⟩, -⟩ := cells5z b10
    have b11 := heap_alloc_new V10 (.cells #[.int .i64 3, .int .i64 1, .complex .f64 0 0, .string ⟨#[77, 97, 105, 110]⟩, .string ⟨#[]⟩] 39)
    have g11 : Fr no V10 (V10.alloc (.cells #[.int .i64 3, .int .i64 1, .complex .f64 0 0, .string ⟨#[77, 97, 105, 110]⟩, .string ⟨#[]⟩] 39)) := (Fr.refl no V10).alloc _ _
    rw [s10] at b11
    generalize hW11 : V10.alloc (.cells #[.int .i64 3, .int .i64 1, .complex .f64 0 0, .string ⟨#[77, 97, 105, 110]⟩, .string ⟨#[]⟩] 39) = W11 at *
    have bx11 := g11.heap (g10'.heap H8.out.2.1 (fun f => f)) (fun f => f)
    obtain ⟨⟨i0, i1, i2, i3, i4⟩, iz0, iz1, iz2, iz3, iz4⟩ := cells5z bx11
    have g12 : Fr (fun k => k = w2.heap.size) W11 (World.setCell W11 ⟨w2.heap.size, 2, none⟩ (.slice (some ⟨w8.heap.size + 1, 0, none⟩) 1 1)) := (Fr.refl (fun k => k = w2.heap.size) W11).setCell (p := ⟨w2.heap.size, 2, none⟩) (fun _ => rfl) _
    have bx12 : (World.setCell W11 ⟨w2.heap.size, 2, none⟩ (.slice (some ⟨w8.heap.size + 1, 0, none⟩) 1 1)).heap[w2.heap.size]? = some (.cells #[.string ⟨#[77, 97, 105, 110]⟩, .string ⟨#[]⟩, .slice (some ⟨w8.heap.size + 1, 0, none⟩) 1 1, .slice none 0 0, .slice (some ⟨r, 0, none⟩) 1 1] 28 (0, 0)) := by
      unfold World.setCell
      rw [Array.getElem?_modify, if_pos rfl, bx11]
      rfl
    generalize hV12 : World.setCell W11 ⟨w2.heap.size, 2, none⟩ (.slice (some ⟨w8.heap.size + 1, 0, none⟩) 1 1) = V12 at *
    obtain ⟨⟨j0, j1, j2, j3, j4⟩, -⟩ := cells5z bx12
    have hq12 := g12.heap (g11.heap (g10'.heap H8.out.2.2.1 (fun f => f)) (fun f => f)) (fun e => by omega)
    have hr12 := g12.heap (g11.heap (g10'.heap H8.out.2.2.2 (fun f => f)) (fun f => f)) (fun e => by omega)
    have fw12 : Fr no w V12 := ((H8.out.1.new g10' (fun _ _ f => f)).new g11 (fun _ _ f => f)).trans g12 (fun _ _ f => f) (fun i hi e => by omega)
    have CB : ClAt V12 (ctK (w8.heap.size + 1) r) (ctC (⟨3, 1, 0, 0, ⟨#[77, 97, 105, 110]⟩, ⟨#[]⟩⟩ : Cs)) := ct_at (x := (⟨3, 1, 0, 0, ⟨#[77, 97, 105, 110]⟩, ⟨#[]⟩⟩ : Cs)) (g12.heap b11 (fun e => by omega)) hq12 hr12
    have C := check_any V12 (HTR.out V12 fw12).1 (HTR.out V12 fw12).2 _ _ CB (ct_fitC (⟨3, 1, 0, 0, ⟨#[77, 97, 105, 110]⟩, ⟨#[]⟩⟩ : Cs) (show 4 ≤ 20 by decide) (show 0 ≤ 20 by decide))
    rw [ct_chk, show ckCs (⟨3, 1, 0, 0, ⟨#[77, 97, 105, 110]⟩, ⟨#[]⟩⟩ : Cs) = 51 from by decide] at C
    unfold ksV ctK e0 at C
    simp only [] at C
    clear CB hq12 hr12 bx12 g12 bx11 g11 b11 g10' g10 b10 g9' g9v b9v g9 b9
    go_wp2_with fail
    refine C.mono ?_
    rintro x w13 ⟨rfl, f13⟩
    go_wp2_with fail
    go_ret
    exact ⟨rfl, fw12.new f13 (fun _ _ f => f)⟩
  · have hb3 : (b % 3 == 0) = false := by rw [hbv]; rfl
    have hb4 : (b % 3 == 1) = true := by rw [hbv]; rfl
    clear hbv
    have b10 : (World.setCell V9 ⟨w8.heap.size, 2, none⟩ (.complex .f64 4607182418800017408 0)).heap[w8.heap.size]? = some (.cells #[.int .i64 3, .int .i64 0, .complex .f64 4607182418800017408 0, .string ⟨#[77, 97, 105, 110]⟩, .string ⟨#[]⟩] 39 (0, 0)) := by
      unfold World.setCell
      rw [Array.getElem?_modify, if_pos rfl, b9v]
      rfl
    have g10 : Fr (fun k => k = w8.heap.size) V9 (World.setCell V9 ⟨w8.heap.size, 2, none⟩ (.complex .f64 4607182418800017408 0)) := (Fr.refl (fun k => k = w8.heap.size) V9).setCell (p := ⟨w8.heap.size, 2, none⟩) (fun _ => rfl) (.complex .f64 4607182418800017408 0)
    have s10 : (World.setCell V9 ⟨w8.heap.size, 2, none⟩ (.complex .f64 4607182418800017408 0)).heap.size = w8.heap.size + 1 := by rw [← s9v]; simp
    generalize hV10 : (World.setCell V9 ⟨w8.heap.size, 2, none⟩ (.complex .f64 4607182418800017408 0)) = V10 at *
    have g10' : Fr no w8 V10 := g9'.trans g10 (fun _ _ f => f) (fun i hi e => by omega)
    obtain ⟨⟨h0, h1, h2, h3, h4⟩, -⟩ := cells5z b10
    have b11 := heap_alloc_new V10 (.cells #[.int .i64 3, .int .i64 0, .complex .f64 4607182418800017408 0, .string ⟨#[77, 97, 105, 110]⟩, .string ⟨#[]⟩] 39)
    have g11 : Fr no V10 (V10.alloc (.cells #[.int .i64 3, .int .i64 0, .complex .f64 4607182418800017408 0, .string ⟨#[77, 97, 105, 110]⟩, .string ⟨#[]⟩] 39)) := (Fr.refl no V10).alloc _ _
    rw [s10] at b11
    generalize hW11 : V10.alloc (.cells #[.int .i64 3, .int .i64 0, .complex .f64 4607182418800017408 0, .string ⟨#[77, 97, 105, 110]⟩, .string ⟨#[]⟩] 39) = W11 at *
    have bx11 := g11.heap (g10'.heap H8.out.2.1 (fun f => f)) (fun f => f)
    obtain ⟨⟨i0, i1, i2, i3, i4⟩, iz0, iz1, iz2, iz3, iz4⟩ := cells5z bx11
    have g12 : Fr (fun k => k = w2.heap.size) W11 (World.setCell W11 ⟨w2.heap.size, 2, none⟩ (.slice (some ⟨w8.heap.size + 1, 0, none⟩) 1 1)) := (Fr.refl (fun k => k = w2.heap.size) W11).setCell (p := ⟨w2.heap.size, 2, none⟩) (fun _ => rfl) _
    have bx12 : (World.setCell W11 ⟨w2.heap.size, 2, none⟩ (.slice (some ⟨w8.heap.size + 1, 0, none⟩) 1 1)).heap[w2.heap.size]? = some (.cells #[.string ⟨#[77, 97, 105, 110]⟩, .string ⟨#[]⟩, .slice (some ⟨w8.heap.size + 1, 0, none⟩) 1 1, .slice none 0 0, .slice (some ⟨r, 0, none⟩) 1 1] 28 (0, 0)) := by
      unfold World.setCell
      rw [Array.getElem?_modify, if_pos rfl, bx11]
      rfl
    generalize hV12 : World.setCell W11 ⟨w2.heap.size, 2, none⟩ (.slice (some ⟨w8.heap.size + 1, 0, none⟩) 1 1) = V12 at *
    obtain ⟨⟨j0, j1, j2, j3, j4⟩, -⟩ := cells5z bx12
    have hq12 := g12.heap (g11.heap (g10'.heap H8.out.2.2.1 (fun f => f)) (fun f => f)) (fun e => by omega)
    have hr12 := g12.heap (g11.heap (g10'.heap H8.out.2.2.2 (fun f => f)) (fun f => f)) (fun e => by omega)
    have fw12 : Fr no w V12 := ((H8.out.1.new g10' (fun _ _ f => f)).new g11 (fun _ _ f => f)).trans g12 (fun _ _ f => f) (fun i hi e => by omega)
    have CB : ClAt V12 (ctK (w8.heap.size + 1) r) (ctC (⟨3, 0, 4607182418800017408, 0, ⟨#[77, 97, 105, 110]⟩, ⟨#[]⟩⟩ : Cs)) := ct_at (x := (⟨3, 0, 4607182418800017408, 0, ⟨#[77, 97, 105, 110]⟩, ⟨#[]⟩⟩ : Cs)) (g12.heap b11 (fun e => by omega)) hq12 hr12
    have C := check_any V12 (HTR.out V12 fw12).1 (HTR.out V12 fw12).2 _ _ CB (ct_fitC (⟨3, 0, 4607182418800017408, 0, ⟨#[77, 97, 105, 110]⟩, ⟨#[]⟩⟩ : Cs) (show 4 ≤ 20 by decide) (show 0 ≤ 20 by decide))
    rw [ct_chk, show ckCs (⟨3, 0, 4607182418800017408, 0, ⟨#[77, 97, 105, 110]⟩, ⟨#[]⟩⟩ : Cs) = 51 from by decide] at C
    unfold ksV ctK e0 at C
    simp only [] at C
    clear CB hq12 hr12 bx12 g12 bx11 g11 b11 g10' g10 b10 g9' g9v b9v g9 b9
    go_wp2_with fail
    refine C.mono ?_
    rintro x w13 ⟨rfl, f13⟩
    go_wp2_with fail
    go_ret
    exact ⟨rfl, fw12.new f13 (fun _ _ f => f)⟩
  · have hb3 : (b % 3 == 0) = false := by rw [hbv]; rfl
    have hb4 : (b % 3 == 1) = false := by rw [hbv]; rfl
    clear hbv
    have b10 : (World.setCell V9 ⟨w8.heap.size, 4, none⟩ (.string ⟨#[120]⟩)).heap[w8.heap.size]? = some (.cells #[.int .i64 3, .int .i64 0, .complex .f64 0 0, .string ⟨#[77, 97, 105, 110]⟩, .string ⟨#[120]⟩] 39 (0, 0)) := by
      unfold World.setCell
      rw [Array.getElem?_modify, if_pos rfl, b9v]
      rfl
    have g10 : Fr (fun k => k = w8.heap.size) V9 (World.setCell V9 ⟨w8.heap.size, 4, none⟩ (.string ⟨#[120]⟩)) := (Fr.refl (fun k => k = w8.heap.size) V9).setCell (p := ⟨w8.heap.size, 4, none⟩) (fun _ => rfl) (.string ⟨#[120]⟩)
    have s10 : (World.setCell V9 ⟨w8.heap.size, 4, none⟩ (.string ⟨#[120]⟩)).heap.size = w8.heap.size + 1 := by rw [← s9v]; simp
    generalize hV10 : (World.setCell V9 ⟨w8.heap.size, 4, none⟩ (.string ⟨#[120]⟩)) = V10 at *
    have g10' : Fr no w8 V10 := g9'.trans g10 (fun _ _ f => f) (fun i hi e => by omega)
    obtain ⟨⟨h0, h1, h2, h3, h4⟩, -⟩ := cells5z b10
    have b11 := heap_alloc_new V10 (.cells #[.int .i64 3, .int .i64 0, .complex .f64 0 0, .string ⟨#[77, 97, 105, 110]⟩, .string ⟨#[120]⟩] 39)
    have g11 : Fr no V10 (V10.alloc (.cells #[.int .i64 3, .int .i64 0, .complex .f64 0 0, .string ⟨#[77, 97, 105, 110]⟩, .string ⟨#[120]⟩] 39)) := (Fr.refl no V10).alloc _ _
    rw [s10] at b11
    generalize hW11 : V10.alloc (.cells #[.int .i64 3, .int .i64 0, .complex .f64 0 0, .string ⟨#[77, 97, 105, 110]⟩, .string ⟨#[120]⟩] 39) = W11 at *
    have bx11 := g11.heap (g10'.heap H8.out.2.1 (fun f => f)) (fun f => f)
    obtain ⟨⟨i0, i1, i2, i3, i4⟩, iz0, iz1, iz2, iz3, iz4⟩ := cells5z bx11
    have g12 : Fr (fun k => k = w2.heap.size) W11 (World.setCell W11 ⟨w2.heap.size, 2, none⟩ (.slice (some ⟨w8.heap.size + 1, 0, none⟩) 1 1)) := (Fr.refl (fun k => k = w2.heap.size) W11).setCell (p := ⟨w2.heap.size, 2, none⟩) (fun _ => rfl) _
    have bx12 : (World.setCell W11 ⟨w2.heap.size, 2, none⟩ (.slice (some ⟨w8.heap.size + 1, 0, none⟩) 1 1)).heap[w2.heap.size]? = some (.cells #[.string ⟨#[77, 97, 105, 110]⟩, .string ⟨#[]⟩, .slice (some ⟨w8.heap.size + 1, 0, none⟩) 1 1, .slice none 0 0, .slice (some ⟨r, 0, none⟩) 1 1] 28 (0, 0)) := by
      unfold World.setCell
      rw [Array.getElem?_modify, if_pos rfl, bx11]
      rfl
    generalize hV12 : World.setCell W11 ⟨w2.heap.size, 2, none⟩ (.slice (some ⟨w8.heap.size + 1, 0, none⟩) 1 1) = V12 at *
    obtain ⟨⟨j0, j1, j2, j3, j4⟩, -⟩ := cells5z bx12
    have hq12 := g12.heap (g11.heap (g10'.heap H8.out.2.2.1 (fun f => f)) (fun f => f)) (fun e => by omega)
    have hr12 := g12.heap (g11.heap (g10'.heap H8.out.2.2.2 (fun f => f)) (fun f => f)) (fun e => by omega)
    have fw12 : Fr no w V12 := ((H8.out.1.new g10' (fun _ _ f => f)).new g11 (fun _ _ f => f)).trans g12 (fun _ _ f => f) (fun i hi e => by omega)
    have CB : ClAt V12 (ctK (w8.heap.size + 1) r) (ctC (⟨3, 0, 0, 0, ⟨#[77, 97, 105, 110]⟩, ⟨#[120]⟩⟩ : Cs)) := ct_at (x := (⟨3, 0, 0, 0, ⟨#[77, 97, 105, 110]⟩, ⟨#[120]⟩⟩ : Cs)) (g12.heap b11 (fun e => by omega)) hq12 hr12
    have C := check_any V12 (HTR.out V12 fw12).1 (HTR.out V12 fw12).2 _ _ CB (ct_fitC (⟨3, 0, 0, 0, ⟨#[77, 97, 105, 110]⟩, ⟨#[120]⟩⟩ : Cs) (show 4 ≤ 20 by decide) (show 1 ≤ 20 by decide))
    rw [ct_chk, show ckCs (⟨3, 0, 0, 0, ⟨#[77, 97, 105, 110]⟩, ⟨#[120]⟩⟩ : Cs) = 51 from by decide] at C
    unfold ksV ctK e0 at C
    simp only [] at C
    clear CB hq12 hr12 bx12 g12 bx11 g11 b11 g10' g10 b10 g9' g9v b9v g9 b9
    go_wp2_with fail
    refine C.mono ?_
    rintro x w13 ⟨rfl, f13⟩
    go_wp2_with fail
    go_ret
    exact ⟨rfl, fw12.new f13 (fun _ _ f => f)⟩

set_option maxRecDepth 100000 in
set_option maxHeartbeats 8000000 in
theorem consts4 (w : World) (T : Tb w) (R : Tr w) (a : Int) (ha0 : 0 ≤ a) (ha1 : a ≤ 255) (n : Int) (b : Int) (hb0 : 0 ≤ b) (hb1 : b ≤ 255) (hav : a % 5 = 3) : Calls Tryz.prog 4 #[.int .u8 a, .int .i64 n, .int .u8 b] w fun e w' => e = .returned (.bool true) ∧ Fr no w w' := by
  have hstc := run_store_cx
  have HTR : Hid (∀ w1, Fr no w w1 → Tb w1 ∧ Tr w1) := fun w1 f => ⟨T.kept f, R.kept f⟩
  have KN := known_any w T R
  clear T R
  go_enter Tryz.func4, Tryz.ntmps4
  go_wp2_with fail
  refine KN.mono ?_
  rintro x w1 ⟨rfl, f1⟩
  go_wp2_with fail
  refine (small_any w1).mono ?_
  rintro x w2 ⟨q, r, rfl, hqs, hrs, hne, hq, hr, f2⟩
  have fw2 := f1.new f2 (fun _ _ f => f)
  have hltq : q < w2.heap.size := ltHeap hq
  have hltr : r < w2.heap.size := ltHeap hr
  have b2 := heap_alloc_new w2 (.cells #[.string ⟨#[]⟩, .string ⟨#[]⟩, .slice none 0 0, .slice none 0 0, .slice none 0 0] 28)
  have s2 := size_alloc w2 (.cells #[.string ⟨#[]⟩, .string ⟨#[]⟩, .slice none 0 0, .slice none 0 0, .slice none 0 0] 28)
  have g2 : Fr no w2 (w2.alloc (.cells #[.string ⟨#[]⟩, .string ⟨#[]⟩, .slice none 0 0, .slice none 0 0, .slice none 0 0] 28)) := (Fr.refl no w2).alloc _ _
  generalize hW2 : w2.alloc (.cells #[.string ⟨#[]⟩, .string ⟨#[]⟩, .slice none 0 0, .slice none 0 0, .slice none 0 0] 28) = W2 at *
  have b2v : (World.setCell (World.setCell (World.setCell (World.setCell (World.setCell W2 ⟨w2.heap.size, 0, none⟩ (.string ⟨#[77, 97, 105, 110]⟩)) ⟨w2.heap.size, 1, none⟩ (.string ⟨#[]⟩)) ⟨w2.heap.size, 2, none⟩ (.slice none 0 0)) ⟨w2.heap.size, 3, none⟩ (.slice none 0 0)) ⟨w2.heap.size, 4, none⟩ (.slice (some ⟨r, 0, none⟩) 1 1)).heap[w2.heap.size]? = some (.cells #[.string ⟨#[77, 97, 105, 110]⟩, .string ⟨#[]⟩, .slice none 0 0, .slice none 0 0, .slice (some ⟨r, 0, none⟩) 1 1] 28 (0, 0)) := set_chain5 b2
  have g2v := fr_chain5 W2 w2.heap.size (.string ⟨#[77, 97, 105, 110]⟩) (.string ⟨#[]⟩) (.slice none 0 0) (.slice none 0 0) (.slice (some ⟨r, 0, none⟩) 1 1)
  have s2v : (World.setCell (World.setCell (World.setCell (World.setCell (World.setCell W2 ⟨w2.heap.size, 0, none⟩ (.string ⟨#[77, 97, 105, 110]⟩)) ⟨w2.heap.size, 1, none⟩ (.string ⟨#[]⟩)) ⟨w2.heap.size, 2, none⟩ (.slice none 0 0)) ⟨w2.heap.size, 3, none⟩ (.slice none 0 0)) ⟨w2.heap.size, 4, none⟩ (.slice (some ⟨r, 0, none⟩) 1 1)).heap.size = w2.heap.size + 1 := by rw [← s2]; simp
  generalize hV2 : (World.setCell (World.setCell (World.setCell (World.setCell (World.setCell W2 ⟨w2.heap.size, 0, none⟩ (.string ⟨#[77, 97, 105, 110]⟩)) ⟨w2.heap.size, 1, none⟩ (.string ⟨#[]⟩)) ⟨w2.heap.size, 2, none⟩ (.slice none 0 0)) ⟨w2.heap.size, 3, none⟩ (.slice none 0 0)) ⟨w2.heap.size, 4, none⟩ (.slice (some ⟨r, 0, none⟩) 1 1)) = V2 at *
  have g2' : Fr no w2 V2 := g2.trans g2v (fun _ _ f => f) (fun i hi e => by omega)
  obtain ⟨⟨c0, c1, c2, c3, c4⟩, z0, z1, z2, z3, z4⟩ := cells5z b2
  have fw := fw2.new g2' (fun _ _ f => f)
  have HS : Hid (Fr no w V2 ∧ V2.heap[w2.heap.size]? = some (.cells #[.string ⟨#[77, 97, 105, 110]⟩, .string ⟨#[]⟩, .slice none 0 0, .slice none 0 0, .slice (some ⟨r, 0, none⟩) 1 1] 28 (0, 0)) ∧ V2.heap[r]? = some (.cells #[.string ⟨#[109, 97, 105, 110]⟩, .slice none 0 0, .int .i64 0, .string ⟨#[]⟩, .int .i64 1, .int .i64 0, .slice (some ⟨q, 0, none⟩) 1 1, .slice none 0 0] 53 (0, 0)) ∧ V2.heap[q]? = some (.cells #[.int .i64 33, .int .i64 0] 57 (0, 0))) := ⟨fw, b2v, g2'.heap hr (fun f => f), g2'.heap hq (fun f => f)⟩
  have hPw : w.heap.size ≤ w2.heap.size := fw2.size
  clear fw g2 g2' g2v b2 b2v fw2 f1 f2 hq hr KN hqs hrs
  have b3 := heap_alloc_new V2 (.cells #[.int .i64 0, .int .i64 0, .complex .f64 0 0, .string ⟨#[]⟩, .string ⟨#[]⟩] 39)
  have s3 := size_alloc V2 (.cells #[.int .i64 0, .int .i64 0, .complex .f64 0 0, .string ⟨#[]⟩, .string ⟨#[]⟩] 39)
  have g3 : Fr no V2 (V2.alloc (.cells #[.int .i64 0, .int .i64 0, .complex .f64 0 0, .string ⟨#[]⟩, .string ⟨#[]⟩] 39)) := (Fr.refl no V2).alloc _ _
  rw [s2v] at b3 s3
  generalize hW3 : V2.alloc (.cells #[.int .i64 0, .int .i64 0, .complex .f64 0 0, .string ⟨#[]⟩, .string ⟨#[]⟩] 39) = W3 at *
  obtain ⟨⟨y0, y1, y2, y3, y4⟩, yz0, yz1, yz2, yz3, yz4⟩ := cells5z b3
  have b3v : (World.setCell (World.setCell (World.setCell (World.setCell (World.setCell W3 ⟨w2.heap.size + 1, 0, none⟩ (.int .i64 4)) ⟨w2.heap.size + 1, 1, none⟩ (.int .i64 0)) ⟨w2.heap.size + 1, 2, none⟩ (.complex .f64 0 0)) ⟨w2.heap.size + 1, 3, none⟩ (.string ⟨#[]⟩)) ⟨w2.heap.size + 1, 4, none⟩ (.string ⟨#[]⟩)).heap[w2.heap.size + 1]? = some (.cells #[.int .i64 4, .int .i64 0, .complex .f64 0 0, .string ⟨#[]⟩, .string ⟨#[]⟩] 39 (0, 0)) := set_chain5 b3
  have g3v := fr_chain5 W3 (w2.heap.size + 1) (.int .i64 4) (.int .i64 0) (.complex .f64 0 0) (.string ⟨#[]⟩) (.string ⟨#[]⟩)
  have s3v : (World.setCell (World.setCell (World.setCell (World.setCell (World.setCell W3 ⟨w2.heap.size + 1, 0, none⟩ (.int .i64 4)) ⟨w2.heap.size + 1, 1, none⟩ (.int .i64 0)) ⟨w2.heap.size + 1, 2, none⟩ (.complex .f64 0 0)) ⟨w2.heap.size + 1, 3, none⟩ (.string ⟨#[]⟩)) ⟨w2.heap.size + 1, 4, none⟩ (.string ⟨#[]⟩)).heap.size = w2.heap.size + 1 + 1 := by rw [← s3]; simp
  generalize hV3 : (World.setCell (World.setCell (World.setCell (World.setCell (World.setCell W3 ⟨w2.heap.size + 1, 0, none⟩ (.int .i64 4)) ⟨w2.heap.size + 1, 1, none⟩ (.int .i64 0)) ⟨w2.heap.size + 1, 2, none⟩ (.complex .f64 0 0)) ⟨w2.heap.size + 1, 3, none⟩ (.string ⟨#[]⟩)) ⟨w2.heap.size + 1, 4, none⟩ (.string ⟨#[]⟩)) = V3 at *
  have g3' : Fr no V2 V3 := g3.trans g3v (fun _ _ f => f) (fun i hi e => by omega)
  obtain ⟨⟨e0', e1', e2', e3', e4'⟩, ez0, ez1, ez2, ez3, ez4⟩ := cells5z b3v
  have b4 : (World.setCell (World.setCell V3 ⟨w2.heap.size + 1, 3, none⟩ (.string ⟨#[77, 97, 105, 110]⟩)) ⟨w2.heap.size + 1, 4, none⟩ (.string ⟨#[120]⟩)).heap[w2.heap.size + 1]? = some (.cells #[.int .i64 4, .int .i64 0, .complex .f64 0 0, .string ⟨#[77, 97, 105, 110]⟩, .string ⟨#[120]⟩] 39 (0, 0)) := by
    have hs0 : (World.setCell V3 ⟨w2.heap.size + 1, 3, none⟩ (.string ⟨#[77, 97, 105, 110]⟩)).heap[w2.heap.size + 1]? = some (.cells #[.int .i64 4, .int .i64 0, .complex .f64 0 0, .string ⟨#[77, 97, 105, 110]⟩, .string ⟨#[]⟩] 39 (0, 0)) := by
      unfold World.setCell
      rw [Array.getElem?_modify, if_pos rfl, b3v]
      rfl
    have hs1 : (World.setCell (World.setCell V3 ⟨w2.heap.size + 1, 3, none⟩ (.string ⟨#[77, 97, 105, 110]⟩)) ⟨w2.heap.size + 1, 4, none⟩ (.string ⟨#[120]⟩)).heap[w2.heap.size + 1]? = some (.cells #[.int .i64 4, .int .i64 0, .complex .f64 0 0, .string ⟨#[77, 97, 105, 110]⟩, .string ⟨#[120]⟩] 39 (0, 0)) := by
      generalize (World.setCell V3 ⟨w2.heap.size + 1, 3, none⟩ (.string ⟨#[77, 97, 105, 110]⟩)) = W' at *
      unfold World.setCell
      rw [Array.getElem?_modify, if_pos rfl, hs0]
      rfl
    exact hs1
  have g4 : Fr (fun k => k = w2.heap.size + 1) V3 (World.setCell (World.setCell V3 ⟨w2.heap.size + 1, 3, none⟩ (.string ⟨#[77, 97, 105, 110]⟩)) ⟨w2.heap.size + 1, 4, none⟩ (.string ⟨#[120]⟩)) := (((Fr.refl (fun k => k = w2.heap.size + 1) V3).setCell (p := ⟨w2.heap.size + 1, 3, none⟩) (fun _ => rfl) (.string ⟨#[77, 97, 105, 110]⟩)).setCell (p := ⟨w2.heap.size + 1, 4, none⟩) (fun _ => rfl) (.string ⟨#[120]⟩))
  have s4 : (World.setCell (World.setCell V3 ⟨w2.heap.size + 1, 3, none⟩ (.string ⟨#[77, 97, 105, 110]⟩)) ⟨w2.heap.size + 1, 4, none⟩ (.string ⟨#[120]⟩)).heap.size = w2.heap.size + 1 + 1 := by rw [← s3v]; simp
  generalize hV4 : (World.setCell (World.setCell V3 ⟨w2.heap.size + 1, 3, none⟩ (.string ⟨#[77, 97, 105, 110]⟩)) ⟨w2.heap.size + 1, 4, none⟩ (.string ⟨#[120]⟩)) = V4 at *
  have g4' : Fr no V2 V4 := g3'.trans g4 (fun _ _ f => f) (fun i hi e => by omega)
  obtain ⟨⟨h0, h1, h2, h3, h4⟩, -⟩ := cells5z b4
  have b5 := heap_alloc_new V4 (.cells #[.int .i64 4, .int .i64 0, .complex .f64 0 0, .string ⟨#[77, 97, 105, 110]⟩, .string ⟨#[120]⟩] 39)
  have g5 : Fr no V4 (V4.alloc (.cells #[.int .i64 4, .int .i64 0, .complex .f64 0 0, .string ⟨#[77, 97, 105, 110]⟩, .string ⟨#[120]⟩] 39)) := (Fr.refl no V4).alloc _ _
  rw [s4] at b5
  generalize hW5 : V4.alloc (.cells #[.int .i64 4, .int .i64 0, .complex .f64 0 0, .string ⟨#[77, 97, 105, 110]⟩, .string ⟨#[120]⟩] 39) = W5 at *
  have bx5 := g5.heap (g4'.heap HS.out.2.1 (fun f => f)) (fun f => f)
  obtain ⟨⟨i0, i1, i2, i3, i4⟩, iz0, iz1, iz2, iz3, iz4⟩ := cells5z bx5
  have g6 : Fr (fun k => k = w2.heap.size) W5 (World.setCell W5 ⟨w2.heap.size, 2, none⟩ (.slice (some ⟨w2.heap.size + 1 + 1, 0, none⟩) 1 1)) := (Fr.refl (fun k => k = w2.heap.size) W5).setCell (p := ⟨w2.heap.size, 2, none⟩) (fun _ => rfl) _
  have bx6 : (World.setCell W5 ⟨w2.heap.size, 2, none⟩ (.slice (some ⟨w2.heap.size + 1 + 1, 0, none⟩) 1 1)).heap[w2.heap.size]? = some (.cells #[.string ⟨#[77, 97, 105, 110]⟩, .string ⟨#[]⟩, .slice (some ⟨w2.heap.size + 1 + 1, 0, none⟩) 1 1, .slice none 0 0, .slice (some ⟨r, 0, none⟩) 1 1] 28 (0, 0)) := by
    unfold World.setCell
    rw [Array.getElem?_modify, if_pos rfl, bx5]
    rfl
  generalize hV6 : World.setCell W5 ⟨w2.heap.size, 2, none⟩ (.slice (some ⟨w2.heap.size + 1 + 1, 0, none⟩) 1 1) = V6 at *
  obtain ⟨⟨j0, j1, j2, j3, j4⟩, -⟩ := cells5z bx6
  have f26 : Fr (fun k => k = w2.heap.size) V2 V6 := (g4'.new g5 (fun _ _ f => f)).trans g6 (fun _ _ f => f.elim) (fun _ _ e => e)
  have hck : ckCs (⟨4, 0, 0, 0, ⟨#[77, 97, 105, 110]⟩, ⟨#[120]⟩⟩ : Cs) = 0 := by decide
  have hfitx : FitK (ctC (⟨4, 0, 0, 0, ⟨#[77, 97, 105, 110]⟩, ⟨#[120]⟩⟩ : Cs)) := ct_fit _ ⟨show (-9223372036854775808 : Int) ≤ 0 by decide, show (0 : Int) ≤ 9223372036854775807 by decide, show (0 : Nat) < 2 ^ 64 by decide, show (0 : Nat) < 2 ^ 64 by decide⟩ (show 4 ≤ 20 by decide) (show 1 ≤ 20 by decide)
  have HV6 : Hid (Fr no w V6 ∧ V6.heap[w2.heap.size + 1]? = some (.cells #[.int .i64 4, .int .i64 0, .complex .f64 0 0, .string ⟨#[77, 97, 105, 110]⟩, .string ⟨#[120]⟩] 39 (0, 0)) ∧ V6.heap[w2.heap.size]? = some (.cells #[.string ⟨#[77, 97, 105, 110]⟩, .string ⟨#[]⟩, .slice (some ⟨w2.heap.size + 1 + 1, 0, none⟩) 1 1, .slice none 0 0, .slice (some ⟨r, 0, none⟩) 1 1] 28 (0, 0)) ∧ V6.heap[q]? = some (.cells #[.int .i64 33, .int .i64 0] 57 (0, 0)) ∧ V6.heap[r]? = some (.cells #[.string ⟨#[109, 97, 105, 110]⟩, .slice none 0 0, .int .i64 0, .string ⟨#[]⟩, .int .i64 1, .int .i64 0, .slice (some ⟨q, 0, none⟩) 1 1, .slice none 0 0] 53 (0, 0)) ∧ ClAt V6 (ctK (w2.heap.size + 1 + 1) r) (ctC (⟨4, 0, 0, 0, ⟨#[77, 97, 105, 110]⟩, ⟨#[120]⟩⟩ : Cs))) :=
    have h1 := f26.heap HS.out.2.2.2 (fun e => by omega)
    have h2 := f26.heap HS.out.2.2.1 (fun e => by omega)
    ⟨HS.out.1.trans f26 (fun _ _ f => f) (fun i hi e => by omega), g6.heap (g5.heap b4 (fun f => f)) (fun e => by omega), bx6, h1, h2, ct_at (x := (⟨4, 0, 0, 0, ⟨#[77, 97, 105, 110]⟩, ⟨#[120]⟩⟩ : Cs)) (g6.heap b5 (fun e => by omega)) h1 h2⟩
  have E := encode_any V6 (HTR.out V6 HV6.out.1).1 (HTR.out V6 HV6.out.1).2 _ _ HV6.out.2.2.2.2.2 hfitx
  rw [(ct_ec _ hck).1, (ct_ec _ hck).2] at E
  unfold ksV ctK e0 at E
  simp only [] at E
  have HC : Hid (ckCs (⟨4, 0, 0, 0, ⟨#[77, 97, 105, 110]⟩, ⟨#[120]⟩⟩ : Cs) = 0 ∧ FitK (ctC (⟨4, 0, 0, 0, ⟨#[77, 97, 105, 110]⟩, ⟨#[120]⟩⟩ : Cs))) := ⟨hck, hfitx⟩
  clear hck hfitx f26 bx6 g6 bx5 g5 b5 g4' g4 b4 g3' g3v b3v
  go_wp2_with fail
  clear s2 s2v s3 s3v s4 hW2 hV2 c0 c1 c2 c3 c4 z0 z1 z2 z3 z4 hW3 hV3 hV4 hW5 hV6 y0 y1 y2 y3 y4 yz0 yz1 yz2 yz3 yz4 e0' e1' e2' e3' e4' ez0 ez1 ez2 ez3 ez4 h0 h1 h2 h3 h4 i0 i1 i2 i3 i4 iz0 iz1 iz2 iz3 iz4 j0 j1 j2 j3 j4
  refine E.mono ?_
  rintro x w6 ⟨v6, rfl, o6, f6⟩
  clear E
  have fw6 := HV6.out.1.new f6 (fun _ _ f => f)
  have D := decode_any w6 (HTR.out w6 fw6).1 (HTR.out w6 fw6).2 v6 _ o6.sl (ct_by _ ⟨show (0 : Int) ≤ 4 by decide, show (4 : Int) ≤ 255 by decide⟩) (Nat.le_trans (ct_len _ (ct_v _ HC.out.1)) (by decide))
  rw [(ct_dec _ HC.out.1 HC.out.2).1, (ct_dec _ HC.out.1 HC.out.2).2] at D
  obtain ⟨va, vl, vc, ev⟩ := o6.form
  subst ev
  clear o6
  go_wp2_with fail
  refine D.mono ?_
  rintro x w7 ⟨⟨kn, ks, kp, kf, km⟩, rfl, hcl, f7⟩
  clear D
  have b7 := heap_alloc_new w7 (.cells #[.string ⟨#[]⟩, .string ⟨#[]⟩, .slice none 0 0, .slice none 0 0, .slice none 0 0] 28)
  have s7 := size_alloc w7 (.cells #[.string ⟨#[]⟩, .string ⟨#[]⟩, .slice none 0 0, .slice none 0 0, .slice none 0 0] 28)
  have g7 : Fr no w7 (w7.alloc (.cells #[.string ⟨#[]⟩, .string ⟨#[]⟩, .slice none 0 0, .slice none 0 0, .slice none 0 0] 28)) := (Fr.refl no w7).alloc _ _
  generalize hW7 : w7.alloc (.cells #[.string ⟨#[]⟩, .string ⟨#[]⟩, .slice none 0 0, .slice none 0 0, .slice none 0 0] 28) = W7 at *
  have b7v : (World.setCell (World.setCell (World.setCell (World.setCell (World.setCell W7 ⟨w7.heap.size, 0, none⟩ (.string kn)) ⟨w7.heap.size, 1, none⟩ (.string ks)) ⟨w7.heap.size, 2, none⟩ (.slice kp.a kp.n kp.c)) ⟨w7.heap.size, 3, none⟩ (.slice kf.a kf.n kf.c)) ⟨w7.heap.size, 4, none⟩ (.slice km.a km.n km.c)).heap[w7.heap.size]? = some (.cells #[.string kn, .string ks, .slice kp.a kp.n kp.c, .slice kf.a kf.n kf.c, .slice km.a km.n km.c] 28 (0, 0)) := set_chain5 b7
  have g7v := fr_chain5 W7 w7.heap.size (.string kn) (.string ks) (.slice kp.a kp.n kp.c) (.slice kf.a kf.n kf.c) (.slice km.a km.n km.c)
  generalize hV7 : (World.setCell (World.setCell (World.setCell (World.setCell (World.setCell W7 ⟨w7.heap.size, 0, none⟩ (.string kn)) ⟨w7.heap.size, 1, none⟩ (.string ks)) ⟨w7.heap.size, 2, none⟩ (.slice kp.a kp.n kp.c)) ⟨w7.heap.size, 3, none⟩ (.slice kf.a kf.n kf.c)) ⟨w7.heap.size, 4, none⟩ (.slice km.a km.n km.c)) = V7 at *
  have g7' : Fr no w7 V7 := g7.trans g7v (fun _ _ f => f) (fun i hi e => by omega)
  obtain ⟨⟨c0, c1, c2, c3, c4⟩, z0, z1, z2, z3, z4⟩ := cells5z b7
  obtain ⟨⟨d0, d1, d2, d3, d4⟩, -⟩ := cells5z b7v
  have f67 : Fr no V6 V7 := (f6.new f7 (fun _ _ f => f)).new g7' (fun _ _ f => f)
  obtain ⟨⟨p0, p1, p2, p3, p4⟩, -⟩ := cells5z (f67.heap HV6.out.2.2.1 (fun f => f))
  have S := same_any V7 (ctK (w2.heap.size + 1 + 1) r) ⟨kn, ks, kp, kf, km⟩ _ (HV6.out.2.2.2.2.2.kept f67) (hcl.kept g7')
  unfold ksV ctK e0 at S
  simp only [] at S
  have HF67 : Hid (Fr no V6 V7) := f67
  unfold ksV
  simp only []
  clear f67 g7' g7v b7v g7 b7 hcl f7 f6 fw6
  go_wp2_with fail
  clear hW7 hV7 c0 c1 c2 c3 c4 z0 z1 z2 z3 z4 d0 d1 d2 d3 d4 p0 p1 p2 p3 p4 s7
  refine S.mono ?_
  rintro x w8 ⟨rfl, f8⟩
  clear S
  have f68 : Fr no V6 w8 := HF67.out.new f8 (fun _ _ f => f)
  have hK8 := f68.heap HV6.out.2.1 (fun f => f)
  have hP8 := f68.heap HV6.out.2.2.1 (fun f => f)
  have hq8 := f68.heap HV6.out.2.2.2.1 (fun f => f)
  have hr8 := f68.heap HV6.out.2.2.2.2.1 (fun f => f)
  have fw8 := HV6.out.1.new f68 (fun _ _ f => f)
  have hlt8 : w2.heap.size < w8.heap.size := ltHeap hP8
  have hltq8 : q < w8.heap.size := ltHeap hq8
  have hltr8 : r < w8.heap.size := ltHeap hr8
  obtain ⟨⟨k0, k1, k2, k3, k4⟩, -⟩ := cells5z hK8
  have H8 : Hid (Fr no w w8 ∧ w8.heap[w2.heap.size]? = some (.cells #[.string ⟨#[77, 97, 105, 110]⟩, .string ⟨#[]⟩, .slice (some ⟨w2.heap.size + 1 + 1, 0, none⟩) 1 1, .slice none 0 0, .slice (some ⟨r, 0, none⟩) 1 1] 28 (0, 0)) ∧ w8.heap[q]? = some (.cells #[.int .i64 33, .int .i64 0] 57 (0, 0)) ∧ w8.heap[r]? = some (.cells #[.string ⟨#[109, 97, 105, 110]⟩, .slice none 0 0, .int .i64 0, .string ⟨#[]⟩, .int .i64 1, .int .i64 0, .slice (some ⟨q, 0, none⟩) 1 1, .slice none 0 0] 53 (0, 0))) := ⟨fw8, hP8, hq8, hr8⟩
  clear hK8 hP8 hq8 hr8 fw8 f68 f8 HV6 HF67
  have b9 := heap_alloc_new w8 (.cells #[.int .i64 0, .int .i64 0, .complex .f64 0 0, .string ⟨#[]⟩, .string ⟨#[]⟩] 39)
  have s9 := size_alloc w8 (.cells #[.int .i64 0, .int .i64 0, .complex .f64 0 0, .string ⟨#[]⟩, .string ⟨#[]⟩] 39)
  have g9 : Fr no w8 (w8.alloc (.cells #[.int .i64 0, .int .i64 0, .complex .f64 0 0, .string ⟨#[]⟩, .string ⟨#[]⟩] 39)) := (Fr.refl no w8).alloc _ _
  generalize hW9 : w8.alloc (.cells #[.int .i64 0, .int .i64 0, .complex .f64 0 0, .string ⟨#[]⟩, .string ⟨#[]⟩] 39) = W9 at *
  have b9v : (World.setCell (World.setCell (World.setCell (World.setCell (World.setCell W9 ⟨w8.heap.size, 0, none⟩ (.int .i64 4)) ⟨w8.heap.size, 1, none⟩ (.int .i64 0)) ⟨w8.heap.size, 2, none⟩ (.complex .f64 0 0)) ⟨w8.heap.size, 3, none⟩ (.string ⟨#[77, 97, 105, 110]⟩)) ⟨w8.heap.size, 4, none⟩ (.string ⟨#[120]⟩)).heap[w8.heap.size]? = some (.cells #[.int .i64 4, .int .i64 0, .complex .f64 0 0, .string ⟨#[77, 97, 105, 110]⟩, .string ⟨#[120]⟩] 39 (0, 0)) := set_chain5 b9
  have g9v := fr_chain5 W9 w8.heap.size (.int .i64 4) (.int .i64 0) (.complex .f64 0 0) (.string ⟨#[77, 97, 105, 110]⟩) (.string ⟨#[120]⟩)
  have s9v : (World.setCell (World.setCell (World.setCell (World.setCell (World.setCell W9 ⟨w8.heap.size, 0, none⟩ (.int .i64 4)) ⟨w8.heap.size, 1, none⟩ (.int .i64 0)) ⟨w8.heap.size, 2, none⟩ (.complex .f64 0 0)) ⟨w8.heap.size, 3, none⟩ (.string ⟨#[77, 97, 105, 110]⟩)) ⟨w8.heap.size, 4, none⟩ (.string ⟨#[120]⟩)).heap.size = w8.heap.size + 1 := by rw [← s9]; simp
  generalize hV9 : (World.setCell (World.setCell (World.setCell (World.setCell (World.setCell W9 ⟨w8.heap.size, 0, none⟩ (.int .i64 4)) ⟨w8.heap.size, 1, none⟩ (.int .i64 0)) ⟨w8.heap.size, 2, none⟩ (.complex .f64 0 0)) ⟨w8.heap.size, 3, none⟩ (.string ⟨#[77, 97, 105, 110]⟩)) ⟨w8.heap.size, 4, none⟩ (.string ⟨#[120]⟩)) = V9 at *
  have g9' : Fr no w8 V9 := g9.trans g9v (fun _ _ f => f) (fun i hi e => by omega)
  obtain ⟨⟨y0, y1, y2, y3, y4⟩, yz0, yz1, yz2, yz3, yz4⟩ := cells5z b9
  obtain ⟨⟨e0', e1', e2', e3', e4'⟩, ez0, ez1, ez2, ez3, ez4⟩ := cells5z b9v
  rcases (show b % 3 = 0 ∨ b % 3 = 1 ∨ b % 3 = 2 by omega) with hbv | hbv | hbv
  · have hb3 : (b % 3 == 0) = true := by rw [hbv]; rfl
    have hb4 : (b % 3 == 1) = false := by rw [hbv]; rfl
    clear hbv
    have b10 : (World.setCell V9 ⟨w8.heap.size, 1, none⟩ (.int .i64 1)).heap[w8.heap.size]? = some (.cells #[.int .i64 4, .int .i64 1, .complex .f64 0 0, .string ⟨#[77, 97, 105, 110]⟩, .string ⟨#[120]⟩] 39 (0, 0)) := by
      unfold World.setCell
      rw [Array.getElem?_modify, if_pos rfl, b9v]
      rfl
    have g10 : Fr (fun k => k = w8.heap.size) V9 (World.setCell V9 ⟨w8.heap.size, 1, none⟩ (.int .i64 1)) := (Fr.refl (fun k => k = w8.heap.size) V9).setCell (p := ⟨w8.heap.size, 1, none⟩) (fun _ => rfl) (.int .i64 1)
    have s10 : (World.setCell V9 ⟨w8.heap.size, 1, none⟩ (.int .i64 1)).heap.size = w8.heap.size + 1 := by rw [← s9v]; simp
    generalize hV10 : (World.setCell V9 ⟨w8.heap.size, 1, none⟩ (.int .i64 1)) = V10 at *
    have g10' : Fr no w8 V10 := g9'.trans g10 (fun _ _ f => f) (fun i hi e => by omega)
    obtain ⟨⟨h0, h1, h2, h3, h4⟩, -⟩ := cells5z b10
    have b11 := heap_alloc_new V10 (.cells #[.int .i64 4, .int .i64 1, .complex .f64 0 0, .string ⟨#[77, 97, 105, 110]⟩, .string ⟨#[120]⟩] 39)
    have g11 : Fr no V10 (V10.alloc (.cells #[.int .i64 4, .int .i64 1, .complex .f64 0 0, .string ⟨#[77, 97, 105, 110]⟩, .string ⟨#[120]⟩] 39)) := (Fr.refl no V10).alloc _ _
    rw [s10] at b11
    generalize hW11 : V10.alloc (.cells #[.int .i64 4, .int .i64 1, .complex .f64 0 0, .string ⟨#[77, 97, 105, 110]⟩, .string ⟨#[120]⟩] 39) = W11 at *
    have bx11 := g11.heap (g10'.heap H8.out.2.1 (fun f => f)) (fun f => f)
    obtain ⟨⟨i0, i1, i2, i3, i4⟩, iz0, iz1, iz2, iz3, iz4⟩ := cells5z bx11
    have g12 : Fr (fun k => k = w2.heap.size) W11 (World.setCell W11 ⟨w2.heap.size, 2, none⟩ (.slice (some ⟨w8.heap.size + 1, 0, none⟩) 1 1)) := (Fr.refl (fun k => k = w2.heap.size) W11).setCell (p := ⟨w2.heap.size, 2, none⟩) (fun _ => rfl) _
    have bx12 : (World.setCell W11 ⟨w2.heap.size, 2, none⟩ (.slice (some ⟨w8.heap.size + 1, 0, none⟩) 1 1)).heap[w2.heap.size]? = some (.cells #[.string ⟨#[77, 97, 105, 110]⟩, .string ⟨#[]⟩, .slice (some ⟨w8.heap.size + 1, 0, none⟩) 1 1, .slice none 0 0, .slice (some ⟨r, 0, none⟩) 1 1] 28 (0, 0)) := by
      unfold World.setCell
      rw [Array.getElem?_modify, if_pos rfl, bx11]
      rfl
    generalize hV12 : World.setCell W11 ⟨w2.heap.size, 2, none⟩ (.slice (some ⟨w8.heap.size + 1, 0, none⟩) 1 1) = V12 at *
    obtain ⟨⟨j0, j1, j2, j3, j4⟩, -⟩ := cells5z bx12
    have hq12 := g12.heap (g11.heap (g10'.heap H8.out.2.2.1 (fun f => f)) (fun f => f)) (fun e => by omega)
    have hr12 := g12.heap (g11.heap (g10'.heap H8.out.2.2.2 (fun f => f)) (fun f => f)) (fun e => by omega)
    have fw12 : Fr no w V12 := ((H8.out.1.new g10' (fun _ _ f => f)).new g11 (fun _ _ f => f)).trans g12 (fun _ _ f => f) (fun i hi e => by omega)
    have CB : ClAt V12 (ctK (w8.heap.size + 1) r) (ctC (⟨4, 1, 0, 0, ⟨#[77, 97, 105, 110]⟩, ⟨#[120]⟩⟩ : Cs)) := ct_at (x := (⟨4, 1, 0, 0, ⟨#[77, 97, 105, 110]⟩, ⟨#[120]⟩⟩ : Cs)) (g12.heap b11 (fun e => by omega)) hq12 hr12
    have C := check_any V12 (HTR.out V12 fw12).1 (HTR.out V12 fw12).2 _ _ CB (ct_fitC (⟨4, 1, 0, 0, ⟨#[77, 97, 105, 110]⟩, ⟨#[120]⟩⟩ : Cs) (show 4 ≤ 20 by decide) (show 1 ≤ 20 by decide))
    rw [ct_chk, show ckCs (⟨4, 1, 0, 0, ⟨#[77, 97, 105, 110]⟩, ⟨#[120]⟩⟩ : Cs) = 51 from by decide] at C
    unfold ksV ctK e0 at C
    simp only [] at C
    clear CB hq12 hr12 bx12 g12 bx11 g11 b11 g10' g10 b10 g9' g9v b9v g9 b9
    go_wp2_with fail
    refine C.mono ?_
    rintro x w13 ⟨rfl, f13⟩
    go_wp2_with fail
    go_ret
    exact ⟨rfl, fw12.new f13 (fun _ _ f => f)⟩
  · have hb3 : (b % 3 == 0) = false := by rw [hbv]; rfl
    have hb4 : (b % 3 == 1) = true := by rw [hbv]; rfl
    clear hbv
    have b10 : (World.setCell V9 ⟨w8.heap.size, 2, none⟩ (.complex .f64 4607182418800017408 0)).heap[w8.heap.size]? = some (.cells #[.int .i64 4, .int .i64 0, .complex .f64 4607182418800017408 0, .string ⟨#[77, 97, 105, 110]⟩, .string ⟨#[120]⟩] 39 (0, 0)) := by
      unfold World.setCell
      rw [Array.getElem?_modify, if_pos rfl, b9v]
      rfl
    have g10 : Fr (fun k => k = w8.heap.size) V9 (World.setCell V9 ⟨w8.heap.size, 2, none⟩ (.complex .f64 4607182418800017408 0)) := (Fr.refl (fun k => k = w8.heap.size) V9).setCell (p := ⟨w8.heap.size, 2, none⟩) (fun _ => rfl) (.complex .f64 4607182418800017408 0)
    have s10 : (World.setCell V9 ⟨w8.heap.size, 2, none⟩ (.complex .f64 4607182418800017408 0)).heap.size = w8.heap.size + 1 := by rw [← s9v]; simp
    generalize hV10 : (World.setCell V9 ⟨w8.heap.size, 2, none⟩ (.complex .f64 4607182418800017408 0)) = V10 at *
    have g10' : Fr no w8 V10 := g9'.trans g10 (fun _ _ f => f) (fun i hi e => by omega)
    obtain ⟨⟨h0, h1, h2, h3, h4⟩, -⟩ := cells5z b10
    have b11 := heap_alloc_new V10 (.cells #[.int .i64 4, .int .i64 0, .complex .f64 4607182418800017408 0, .string ⟨#[77, 97, 105, 110]⟩, .string ⟨#[120]⟩] 39)
    have g11 : Fr no V10 (V10.alloc (.cells #[.int .i64 4, .int .i64 0, .complex .f64 4607182418800017408 0, .string ⟨#[77, 97, 105, 110]⟩, .string ⟨#[120]⟩] 39)) := (Fr.refl no V10).alloc _ _
    rw [s10] at b11
    generalize hW11 : V10.alloc (.cells #[.int .i64 4, .int .i64 0, .complex .f64 4607182418800017408 0, .string ⟨#[77, 97, 105, 110]⟩, .string ⟨#[120]⟩] 39) = W11 at *
    have bx11 := g11.heap (g10'.heap H8.out.2.1 (fun f => f)) (fun f => f)
    obtain ⟨⟨i0, i1, i2, i3, i4⟩, iz0, iz1, iz2, iz3, iz4⟩ := cells5z bx11
    have g12 : Fr (fun k => k = w2.heap.size) W11 (World.setCell W11 ⟨w2.heap.size, 2, none⟩ (.slice (some ⟨w8.heap.size + 1, 0, none⟩) 1 1)) := (Fr.refl (fun k => k = w2.heap.size) W11).setCell (p := ⟨w2.heap.size, 2, none⟩) (fun _ => rfl) _
    have bx12 : (World.setCell W11 ⟨w2.heap.size, 2, none⟩ (.slice (some ⟨w8.heap.size + 1, 0, none⟩) 1 1)).heap[w2.heap.size]? = some (.cells #[.string ⟨#[77, 97, 105, 110]⟩, .string ⟨#[]⟩, .slice (some ⟨w8.heap.size + 1, 0, none⟩) 1 1, .slice none 0 0, .slice (some ⟨r, 0, none⟩) 1 1] 28 (0, 0)) := by
      unfold World.setCell
      rw [Array.getElem?_modify, if_pos rfl, bx11]
      rfl
    generalize hV12 : World.setCell W11 ⟨w2.heap.size, 2, none⟩ (.slice (some ⟨w8.heap.size + 1, 0, none⟩) 1 1) = V12 at *
    obtain ⟨⟨j0, j1, j2, j3, j4⟩, -⟩ := cells5z bx12
    have hq12 := g12.heap (g11.heap (g10'.heap H8.out.2.2.1 (fun f => f)) (fun f => f)) (fun e => by omega)
    have hr12 := g12.heap (g11.heap (g10'.heap H8.out.2.2.2 (fun f => f)) (fun f => f)) (fun e => by omega)
    have fw12 : Fr no w V12 := ((H8.out.1.new g10' (fun _ _ f => f)).new g11 (fun _ _ f => f)).trans g12 (fun _ _ f => f) (fun i hi e => by omega)
    have CB : ClAt V12 (ctK (w8.heap.size + 1) r) (ctC (⟨4, 0, 4607182418800017408, 0, ⟨#[77, 97, 105, 110]⟩, ⟨#[120]⟩⟩ : Cs)) := ct_at (x := (⟨4, 0, 4607182418800017408, 0, ⟨#[77, 97, 105, 110]⟩, ⟨#[120]⟩⟩ : Cs)) (g12.heap b11 (fun e => by omega)) hq12 hr12
    have C := check_any V12 (HTR.out V12 fw12).1 (HTR.out V12 fw12).2 _ _ CB (ct_fitC (⟨4, 0, 4607182418800017408, 0, ⟨#[77, 97, 105, 110]⟩, ⟨#[120]⟩⟩ : Cs) (show 4 ≤ 20 by decide) (show 1 ≤ 20 by decide))
    rw [ct_chk, show ckCs (⟨4, 0, 4607182418800017408, 0, ⟨#[77, 97, 105, 110]⟩, ⟨#[120]⟩⟩ : Cs) = 51 from by decide] at C
    unfold ksV ctK e0 at C
    simp only [] at C
    clear CB hq12 hr12 bx12 g12 bx11 g11 b11 g10' g10 b10 g9' g9v b9v g9 b9
    go_wp2_with fail
    refine C.mono ?_
    rintro x w13 ⟨rfl, f13⟩
    go_wp2_with fail
    go_ret
    exact ⟨rfl, fw12.new f13 (fun _ _ f => f)⟩
  · have hb3 : (b % 3 == 0) = false := by rw [hbv]; rfl
    have hb4 : (b % 3 == 1) = false := by rw [hbv]; rfl
    clear hbv
    have b10 : (World.setCell V9 ⟨w8.heap.size, 0, none⟩ (.int .i64 9)).heap[w8.heap.size]? = some (.cells #[.int .i64 9, .int .i64 0, .complex .f64 0 0, .string ⟨#[77, 97, 105, 110]⟩, .string ⟨#[120]⟩] 39 (0, 0)) := by
      unfold World.setCell
      rw [Array.getElem?_modify, if_pos rfl, b9v]
      rfl
    have g10 : Fr (fun k => k = w8.heap.size) V9 (World.setCell V9 ⟨w8.heap.size, 0, none⟩ (.int .i64 9)) := (Fr.refl (fun k => k = w8.heap.size) V9).setCell (p := ⟨w8.heap.size, 0, none⟩) (fun _ => rfl) (.int .i64 9)
    have s10 : (World.setCell V9 ⟨w8.heap.size, 0, none⟩ (.int .i64 9)).heap.size = w8.heap.size + 1 := by rw [← s9v]; simp
    generalize hV10 : (World.setCell V9 ⟨w8.heap.size, 0, none⟩ (.int .i64 9)) = V10 at *
    have g10' : Fr no w8 V10 := g9'.trans g10 (fun _ _ f => f) (fun i hi e => by omega)
    obtain ⟨⟨h0, h1, h2, h3, h4⟩, -⟩ := cells5z b10
    have b11 := heap_alloc_new V10 (.cells #[.int .i64 9, .int .i64 0, .complex .f64 0 0, .string ⟨#[77, 97, 105, 110]⟩, .string ⟨#[120]⟩] 39)
    have g11 : Fr no V10 (V10.alloc (.cells #[.int .i64 9, .int .i64 0, .complex .f64 0 0, .string ⟨#[77, 97, 105, 110]⟩, .string ⟨#[120]⟩] 39)) := (Fr.refl no V10).alloc _ _
    rw [s10] at b11
    generalize hW11 : V10.alloc (.cells #[.int .i64 9, .int .i64 0, .complex .f64 0 0, .string ⟨#[77, 97, 105, 110]⟩, .string ⟨#[120]⟩] 39) = W11 at *
    have bx11 := g11.heap (g10'.heap H8.out.2.1 (fun f => f)) (fun f => f)
    obtain ⟨⟨i0, i1, i2, i3, i4⟩, iz0, iz1, iz2, iz3, iz4⟩ := cells5z bx11
    have g12 : Fr (fun k => k = w2.heap.size) W11 (World.setCell W11 ⟨w2.heap.size, 2, none⟩ (.slice (some ⟨w8.heap.size + 1, 0, none⟩) 1 1)) := (Fr.refl (fun k => k = w2.heap.size) W11).setCell (p := ⟨w2.heap.size, 2, none⟩) (fun _ => rfl) _
    have bx12 : (World.setCell W11 ⟨w2.heap.size, 2, none⟩ (.slice (some ⟨w8.heap.size + 1, 0, none⟩) 1 1)).heap[w2.heap.size]? = some (.cells #[.string ⟨#[77, 97, 105, 110]⟩, .string ⟨#[]⟩, .slice (some ⟨w8.heap.size + 1, 0, none⟩) 1 1, .slice none 0 0, .slice (some ⟨r, 0, none⟩) 1 1] 28 (0, 0)) := by
      unfold World.setCell
      rw [Array.getElem?_modify, if_pos rfl, bx11]
      rfl
    generalize hV12 : World.setCell W11 ⟨w2.heap.size, 2, none⟩ (.slice (some ⟨w8.heap.size + 1, 0, none⟩) 1 1) = V12 at *
    obtain ⟨⟨j0, j1, j2, j3, j4⟩, -⟩ := cells5z bx12
    have hq12 := g12.heap (g11.heap (g10'.heap H8.out.2.2.1 (fun f => f)) (fun f => f)) (fun e => by omega)
    have hr12 := g12.heap (g11.heap (g10'.heap H8.out.2.2.2 (fun f => f)) (fun f => f)) (fun e => by omega)
    have fw12 : Fr no w V12 := ((H8.out.1.new g10' (fun _ _ f => f)).new g11 (fun _ _ f => f)).trans g12 (fun _ _ f => f) (fun i hi e => by omega)
    have CB : ClAt V12 (ctK (w8.heap.size + 1) r) (ctC (⟨9, 0, 0, 0, ⟨#[77, 97, 105, 110]⟩, ⟨#[120]⟩⟩ : Cs)) := ct_at (x := (⟨9, 0, 0, 0, ⟨#[77, 97, 105, 110]⟩, ⟨#[120]⟩⟩ : Cs)) (g12.heap b11 (fun e => by omega)) hq12 hr12
    have C := check_any V12 (HTR.out V12 fw12).1 (HTR.out V12 fw12).2 _ _ CB (ct_fitC (⟨9, 0, 0, 0, ⟨#[77, 97, 105, 110]⟩, ⟨#[120]⟩⟩ : Cs) (show 4 ≤ 20 by decide) (show 1 ≤ 20 by decide))
    rw [ct_chk, show ckCs (⟨9, 0, 0, 0, ⟨#[77, 97, 105, 110]⟩, ⟨#[120]⟩⟩ : Cs) = 51 from by decide] at C
    unfold ksV ctK e0 at C
    simp only [] at C
    clear CB hq12 hr12 bx12 g12 bx11 g11 b11 g10' g10 b10 g9' g9v b9v g9 b9
    go_wp2_with fail
    refine C.mono ?_
    rintro x w13 ⟨rfl, f13⟩
    go_wp2_with fail
    go_ret
    exact ⟨rfl, fw12.new f13 (fun _ _ f => f)⟩

set_option maxRecDepth 100000 in
set_option maxHeartbeats 8000000 in
theorem consts5 (w : World) (T : Tb w) (R : Tr w) (a : Int) (ha0 : 0 ≤ a) (ha1 : a ≤ 255) (n : Int) (b : Int) (hb0 : 0 ≤ b) (hb1 : b ≤ 255) (hav : a % 5 = 4) : Calls Tryz.prog 4 #[.int .u8 a, .int .i64 n, .int .u8 b] w fun e w' => e = .returned (.bool true) ∧ Fr no w w' := by
  have hstc := run_store_cx
  have HTR : Hid (∀ w1, Fr no w w1 → Tb w1 ∧ Tr w1) := fun w1 f => ⟨T.kept f, R.kept f⟩
  have KN := known_any w T R
  clear T R
  go_enter Tryz.func4, Tryz.ntmps4
  go_wp2_with fail
  refine KN.mono ?_
  rintro x w1 ⟨rfl, f1⟩
  go_wp2_with fail
  refine (small_any w1).mono ?_
  rintro x w2 ⟨q, r, rfl, hqs, hrs, hne, hq, hr, f2⟩
  have fw2 := f1.new f2 (fun _ _ f => f)
  have hltq : q < w2.heap.size := ltHeap hq
  have hltr : r < w2.heap.size := ltHeap hr
  have b2 := heap_alloc_new w2 (.cells #[.string ⟨#[]⟩, .string ⟨#[]⟩, .slice none 0 0, .slice none 0 0, .slice none 0 0] 28)
  have s2 := size_alloc w2 (.cells #[.string ⟨#[]⟩, .string ⟨#[]⟩, .slice none 0 0, .slice none 0 0, .slice none 0 0] 28)
  have g2 : Fr no w2 (w2.alloc (.cells #[.string ⟨#[]⟩, .string ⟨#[]⟩, .slice none 0 0, .slice none 0 0, .slice none 0 0] 28)) := (Fr.refl no w2).alloc _ _
  generalize hW2 : w2.alloc (.cells #[.string ⟨#[]⟩, .string ⟨#[]⟩, .slice none 0 0, .slice none 0 0, .slice none 0 0] 28) = W2 at *
  have b2v : (World.setCell (World.setCell (World.setCell (World.setCell (World.setCell W2 ⟨w2.heap.size, 0, none⟩ (.string ⟨#[77, 97, 105, 110]⟩)) ⟨w2.heap.size, 1, none⟩ (.string ⟨#[]⟩)) ⟨w2.heap.size, 2, none⟩ (.slice none 0 0)) ⟨w2.heap.size, 3, none⟩ (.slice none 0 0)) ⟨w2.heap.size, 4, none⟩ (.slice (some ⟨r, 0, none⟩) 1 1)).heap[w2.heap.size]? = some (.cells #[.string ⟨#[77, 97, 105, 110]⟩, .string ⟨#[]⟩, .slice none 0 0, .slice none 0 0, .slice (some ⟨r, 0, none⟩) 1 1] 28 (0, 0)) := set_chain5 b2
  have g2v := fr_chain5 W2 w2.heap.size (.string ⟨#[77, 97, 105, 110]⟩) (.string ⟨#[]⟩) (.slice none 0 0) (.slice none 0 0) (.slice (some ⟨r, 0, none⟩) 1 1)
  have s2v : (World.setCell (World.setCell (World.setCell (World.setCell (World.setCell W2 ⟨w2.heap.size, 0, none⟩ (.string ⟨#[77, 97, 105, 110]⟩)) ⟨w2.heap.size, 1, none⟩ (.string ⟨#[]⟩)) ⟨w2.heap.size, 2, none⟩ (.slice none 0 0)) ⟨w2.heap.size, 3, none⟩ (.slice none 0 0)) ⟨w2.heap.size, 4, none⟩ (.slice (some ⟨r, 0, none⟩) 1 1)).heap.size = w2.heap.size + 1 := by rw [← s2]; simp
  generalize hV2 : (World.setCell (World.setCell (World.setCell (World.setCell (World.setCell W2 ⟨w2.heap.size, 0, none⟩ (.string ⟨#[77, 97, 105, 110]⟩)) ⟨w2.heap.size, 1, none⟩ (.string ⟨#[]⟩)) ⟨w2.heap.size, 2, none⟩ (.slice none 0 0)) ⟨w2.heap.size, 3, none⟩ (.slice none 0 0)) ⟨w2.heap.size, 4, none⟩ (.slice (some ⟨r, 0, none⟩) 1 1)) = V2 at *
  have g2' : Fr no w2 V2 := g2.trans g2v (fun _ _ f => f) (fun i hi e => by omega)
  obtain ⟨⟨c0, c1, c2, c3, c4⟩, z0, z1, z2, z3, z4⟩ := cells5z b2
  have fw := fw2.new g2' (fun _ _ f => f)
  have HS : Hid (Fr no w V2 ∧ V2.heap[w2.heap.size]? = some (.cells #[.string ⟨#[77, 97, 105, 110]⟩, .string ⟨#[]⟩, .slice none 0 0, .slice none 0 0, .slice (some ⟨r, 0, none⟩) 1 1] 28 (0, 0)) ∧ V2.heap[r]? = some (.cells #[.string ⟨#[109, 97, 105, 110]⟩, .slice none 0 0, .int .i64 0, .string ⟨#[]⟩, .int .i64 1, .int .i64 0, .slice (some ⟨q, 0, none⟩) 1 1, .slice none 0 0] 53 (0, 0)) ∧ V2.heap[q]? = some (.cells #[.int .i64 33, .int .i64 0] 57 (0, 0))) := ⟨fw, b2v, g2'.heap hr (fun f => f), g2'.heap hq (fun f => f)⟩
  have hPw : w.heap.size ≤ w2.heap.size := fw2.size
  clear fw g2 g2' g2v b2 b2v fw2 f1 f2 hq hr KN hqs hrs
  have b3 := heap_alloc_new V2 (.cells #[.int .i64 0, .int .i64 0, .complex .f64 0 0, .string ⟨#[]⟩, .string ⟨#[]⟩] 39)
  have s3 := size_alloc V2 (.cells #[.int .i64 0, .int .i64 0, .complex .f64 0 0, .string ⟨#[]⟩, .string ⟨#[]⟩] 39)
  have g3 : Fr no V2 (V2.alloc (.cells #[.int .i64 0, .int .i64 0, .complex .f64 0 0, .string ⟨#[]⟩, .string ⟨#[]⟩] 39)) := (Fr.refl no V2).alloc _ _
  rw [s2v] at b3 s3
  generalize hW3 : V2.alloc (.cells #[.int .i64 0, .int .i64 0, .complex .f64 0 0, .string ⟨#[]⟩, .string ⟨#[]⟩] 39) = W3 at *
  obtain ⟨⟨y0, y1, y2, y3, y4⟩, yz0, yz1, yz2, yz3, yz4⟩ := cells5z b3
  have b3v : (World.setCell (World.setCell (World.setCell (World.setCell (World.setCell W3 ⟨w2.heap.size + 1, 0, none⟩ (.int .i64 5)) ⟨w2.heap.size + 1, 1, none⟩ (.int .i64 0)) ⟨w2.heap.size + 1, 2, none⟩ (.complex .f64 0 0)) ⟨w2.heap.size + 1, 3, none⟩ (.string ⟨#[]⟩)) ⟨w2.heap.size + 1, 4, none⟩ (.string ⟨#[]⟩)).heap[w2.heap.size + 1]? = some (.cells #[.int .i64 5, .int .i64 0, .complex .f64 0 0, .string ⟨#[]⟩, .string ⟨#[]⟩] 39 (0, 0)) := set_chain5 b3
  have g3v := fr_chain5 W3 (w2.heap.size + 1) (.int .i64 5) (.int .i64 0) (.complex .f64 0 0) (.string ⟨#[]⟩) (.string ⟨#[]⟩)
  have s3v : (World.setCell (World.setCell (World.setCell (World.setCell (World.setCell W3 ⟨w2.heap.size + 1, 0, none⟩ (.int .i64 5)) ⟨w2.heap.size + 1, 1, none⟩ (.int .i64 0)) ⟨w2.heap.size + 1, 2, none⟩ (.complex .f64 0 0)) ⟨w2.heap.size + 1, 3, none⟩ (.string ⟨#[]⟩)) ⟨w2.heap.size + 1, 4, none⟩ (.string ⟨#[]⟩)).heap.size = w2.heap.size + 1 + 1 := by rw [← s3]; simp
  generalize hV3 : (World.setCell (World.setCell (World.setCell (World.setCell (World.setCell W3 ⟨w2.heap.size + 1, 0, none⟩ (.int .i64 5)) ⟨w2.heap.size + 1, 1, none⟩ (.int .i64 0)) ⟨w2.heap.size + 1, 2, none⟩ (.complex .f64 0 0)) ⟨w2.heap.size + 1, 3, none⟩ (.string ⟨#[]⟩)) ⟨w2.heap.size + 1, 4, none⟩ (.string ⟨#[]⟩)) = V3 at *
  have g3' : Fr no V2 V3 := g3.trans g3v (fun _ _ f => f) (fun i hi e => by omega)
  obtain ⟨⟨e0', e1', e2', e3', e4'⟩, ez0, ez1, ez2, ez3, ez4⟩ := cells5z b3v
  have b4 : (World.setCell (World.setCell V3 ⟨w2.heap.size + 1, 3, none⟩ (.string ⟨#[77, 97, 105, 110]⟩)) ⟨w2.heap.size + 1, 4, none⟩ (.string ⟨#[120]⟩)).heap[w2.heap.size + 1]? = some (.cells #[.int .i64 5, .int .i64 0, .complex .f64 0 0, .string ⟨#[77, 97, 105, 110]⟩, .string ⟨#[120]⟩] 39 (0, 0)) := by
    have hs0 : (World.setCell V3 ⟨w2.heap.size + 1, 3, none⟩ (.string ⟨#[77, 97, 105, 110]⟩)).heap[w2.heap.size + 1]? = some (.cells #[.int .i64 5, .int .i64 0, .complex .f64 0 0, .string ⟨#[77, 97, 105, 110]⟩, .string ⟨#[]⟩] 39 (0, 0)) := by
      unfold World.setCell
      rw [Array.getElem?_modify, if_pos rfl, b3v]
      rfl
    have hs1 : (World.setCell (World.setCell V3 ⟨w2.heap.size + 1, 3, none⟩ (.string ⟨#[77, 97, 105, 110]⟩)) ⟨w2.heap.size + 1, 4, none⟩ (.string ⟨#[120]⟩)).heap[w2.heap.size + 1]? = some (.cells #[.int .i64 5, .int .i64 0, .complex .f64 0 0, .string ⟨#[77, 97, 105, 110]⟩, .string ⟨#[120]⟩] 39 (0, 0)) := by
      generalize (World.setCell V3 ⟨w2.heap.size + 1, 3, none⟩ (.string ⟨#[77, 97, 105, 110]⟩)) = W' at *
      unfold World.setCell
      rw [Array.getElem?_modify, if_pos rfl, hs0]
      rfl
    exact hs1
  have g4 : Fr (fun k => k = w2.heap.size + 1) V3 (World.setCell (World.setCell V3 ⟨w2.heap.size + 1, 3, none⟩ (.string ⟨#[77, 97, 105, 110]⟩)) ⟨w2.heap.size + 1, 4, none⟩ (.string ⟨#[120]⟩)) := (((Fr.refl (fun k => k = w2.heap.size + 1) V3).setCell (p := ⟨w2.heap.size + 1, 3, none⟩) (fun _ => rfl) (.string ⟨#[77, 97, 105, 110]⟩)).setCell (p := ⟨w2.heap.size + 1, 4, none⟩) (fun _ => rfl) (.string ⟨#[120]⟩))
  have s4 : (World.setCell (World.setCell V3 ⟨w2.heap.size + 1, 3, none⟩ (.string ⟨#[77, 97, 105, 110]⟩)) ⟨w2.heap.size + 1, 4, none⟩ (.string ⟨#[120]⟩)).heap.size = w2.heap.size + 1 + 1 := by rw [← s3v]; simp
  generalize hV4 : (World.setCell (World.setCell V3 ⟨w2.heap.size + 1, 3, none⟩ (.string ⟨#[77, 97, 105, 110]⟩)) ⟨w2.heap.size + 1, 4, none⟩ (.string ⟨#[120]⟩)) = V4 at *
  have g4' : Fr no V2 V4 := g3'.trans g4 (fun _ _ f => f) (fun i hi e => by omega)
  obtain ⟨⟨h0, h1, h2, h3, h4⟩, -⟩ := cells5z b4
  have b5 := heap_alloc_new V4 (.cells #[.int .i64 5, .int .i64 0, .complex .f64 0 0, .string ⟨#[77, 97, 105, 110]⟩, .string ⟨#[120]⟩] 39)
  have g5 : Fr no V4 (V4.alloc (.cells #[.int .i64 5, .int .i64 0, .complex .f64 0 0, .string ⟨#[77, 97, 105, 110]⟩, .string ⟨#[120]⟩] 39)) := (Fr.refl no V4).alloc _ _
  rw [s4] at b5
  generalize hW5 : V4.alloc (.cells #[.int .i64 5, .int .i64 0, .complex .f64 0 0, .string ⟨#[77, 97, 105, 110]⟩, .string ⟨#[120]⟩] 39) = W5 at *
  have bx5 := g5.heap (g4'.heap HS.out.2.1 (fun f => f)) (fun f => f)
  obtain ⟨⟨i0, i1, i2, i3, i4⟩, iz0, iz1, iz2, iz3, iz4⟩ := cells5z bx5
  have g6 : Fr (fun k => k = w2.heap.size) W5 (World.setCell W5 ⟨w2.heap.size, 2, none⟩ (.slice (some ⟨w2.heap.size + 1 + 1, 0, none⟩) 1 1)) := (Fr.refl (fun k => k = w2.heap.size) W5).setCell (p := ⟨w2.heap.size, 2, none⟩) (fun _ => rfl) _
  have bx6 : (World.setCell W5 ⟨w2.heap.size, 2, none⟩ (.slice (some ⟨w2.heap.size + 1 + 1, 0, none⟩) 1 1)).heap[w2.heap.size]? = some (.cells #[.string ⟨#[77, 97, 105, 110]⟩, .string ⟨#[]⟩, .slice (some ⟨w2.heap.size + 1 + 1, 0, none⟩) 1 1, .slice none 0 0, .slice (some ⟨r, 0, none⟩) 1 1] 28 (0, 0)) := by
    unfold World.setCell
    rw [Array.getElem?_modify, if_pos rfl, bx5]
    rfl
  generalize hV6 : World.setCell W5 ⟨w2.heap.size, 2, none⟩ (.slice (some ⟨w2.heap.size + 1 + 1, 0, none⟩) 1 1) = V6 at *
  obtain ⟨⟨j0, j1, j2, j3, j4⟩, -⟩ := cells5z bx6
  have f26 : Fr (fun k => k = w2.heap.size) V2 V6 := (g4'.new g5 (fun _ _ f => f)).trans g6 (fun _ _ f => f.elim) (fun _ _ e => e)
  have hck : ckCs (⟨5, 0, 0, 0, ⟨#[77, 97, 105, 110]⟩, ⟨#[120]⟩⟩ : Cs) = 0 := by decide
  have hfitx : FitK (ctC (⟨5, 0, 0, 0, ⟨#[77, 97, 105, 110]⟩, ⟨#[120]⟩⟩ : Cs)) := ct_fit _ ⟨show (-9223372036854775808 : Int) ≤ 0 by decide, show (0 : Int) ≤ 9223372036854775807 by decide, show (0 : Nat) < 2 ^ 64 by decide, show (0 : Nat) < 2 ^ 64 by decide⟩ (show 4 ≤ 20 by decide) (show 1 ≤ 20 by decide)
  have HV6 : Hid (Fr no w V6 ∧ V6.heap[w2.heap.size + 1]? = some (.cells #[.int .i64 5, .int .i64 0, .complex .f64 0 0, .string ⟨#[77, 97, 105, 110]⟩, .string ⟨#[120]⟩] 39 (0, 0)) ∧ V6.heap[w2.heap.size]? = some (.cells #[.string ⟨#[77, 97, 105, 110]⟩, .string ⟨#[]⟩, .slice (some ⟨w2.heap.size + 1 + 1, 0, none⟩) 1 1, .slice none 0 0, .slice (some ⟨r, 0, none⟩) 1 1] 28 (0, 0)) ∧ V6.heap[q]? = some (.cells #[.int .i64 33, .int .i64 0] 57 (0, 0)) ∧ V6.heap[r]? = some (.cells #[.string ⟨#[109, 97, 105, 110]⟩, .slice none 0 0, .int .i64 0, .string ⟨#[]⟩, .int .i64 1, .int .i64 0, .slice (some ⟨q, 0, none⟩) 1 1, .slice none 0 0] 53 (0, 0)) ∧ ClAt V6 (ctK (w2.heap.size + 1 + 1) r) (ctC (⟨5, 0, 0, 0, ⟨#[77, 97, 105, 110]⟩, ⟨#[120]⟩⟩ : Cs))) :=
    have h1 := f26.heap HS.out.2.2.2 (fun e => by omega)
    have h2 := f26.heap HS.out.2.2.1 (fun e => by omega)
    ⟨HS.out.1.trans f26 (fun _ _ f => f) (fun i hi e => by omega), g6.heap (g5.heap b4 (fun f => f)) (fun e => by omega), bx6, h1, h2, ct_at (x := (⟨5, 0, 0, 0, ⟨#[77, 97, 105, 110]⟩, ⟨#[120]⟩⟩ : Cs)) (g6.heap b5 (fun e => by omega)) h1 h2⟩
  have E := encode_any V6 (HTR.out V6 HV6.out.1).1 (HTR.out V6 HV6.out.1).2 _ _ HV6.out.2.2.2.2.2 hfitx
  rw [(ct_ec _ hck).1, (ct_ec _ hck).2] at E
  unfold ksV ctK e0 at E
  simp only [] at E
  have HC : Hid (ckCs (⟨5, 0, 0, 0, ⟨#[77, 97, 105, 110]⟩, ⟨#[120]⟩⟩ : Cs) = 0 ∧ FitK (ctC (⟨5, 0, 0, 0, ⟨#[77, 97, 105, 110]⟩, ⟨#[120]⟩⟩ : Cs))) := ⟨hck, hfitx⟩
  clear hck hfitx f26 bx6 g6 bx5 g5 b5 g4' g4 b4 g3' g3v b3v
  go_wp2_with fail
  clear s2 s2v s3 s3v s4 hW2 hV2 c0 c1 c2 c3 c4 z0 z1 z2 z3 z4 hW3 hV3 hV4 hW5 hV6 y0 y1 y2 y3 y4 yz0 yz1 yz2 yz3 yz4 e0' e1' e2' e3' e4' ez0 ez1 ez2 ez3 ez4 h0 h1 h2 h3 h4 i0 i1 i2 i3 i4 iz0 iz1 iz2 iz3 iz4 j0 j1 j2 j3 j4
  refine E.mono ?_
  rintro x w6 ⟨v6, rfl, o6, f6⟩
  clear E
  have fw6 := HV6.out.1.new f6 (fun _ _ f => f)
  have D := decode_any w6 (HTR.out w6 fw6).1 (HTR.out w6 fw6).2 v6 _ o6.sl (ct_by _ ⟨show (0 : Int) ≤ 5 by decide, show (5 : Int) ≤ 255 by decide⟩) (Nat.le_trans (ct_len _ (ct_v _ HC.out.1)) (by decide))
  rw [(ct_dec _ HC.out.1 HC.out.2).1, (ct_dec _ HC.out.1 HC.out.2).2] at D
  obtain ⟨va, vl, vc, ev⟩ := o6.form
  subst ev
  clear o6
  go_wp2_with fail
  refine D.mono ?_
  rintro x w7 ⟨⟨kn, ks, kp, kf, km⟩, rfl, hcl, f7⟩
  clear D
  have b7 := heap_alloc_new w7 (.cells #[.string ⟨#[]⟩, .string ⟨#[]⟩, .slice none 0 0, .slice none 0 0, .slice none 0 0] 28)
  have s7 := size_alloc w7 (.cells #[.string ⟨#[]⟩, .string ⟨#[]⟩, .slice none 0 0, .slice none 0 0, .slice none 0 0] 28)
  have g7 : Fr no w7 (w7.alloc (.cells #[.string ⟨#[]⟩, .string ⟨#[]⟩, .slice none 0 0, .slice none 0 0, .slice none 0 0] 28)) := (Fr.refl no w7).alloc _ _
  generalize hW7 : w7.alloc (.cells #[.string ⟨#[]⟩, .string ⟨#[]⟩, .slice none 0 0, .slice none 0 0, .slice none 0 0] 28) = W7 at *
  have b7v : (World.setCell (World.setCell (World.setCell (World.setCell (World.setCell W7 ⟨w7.heap.size, 0, none⟩ (.string kn)) ⟨w7.heap.size, 1, none⟩ (.string ks)) ⟨w7.heap.size, 2, none⟩ (.slice kp.a kp.n kp.c)) ⟨w7.heap.size, 3, none⟩ (.slice kf.a kf.n kf.c)) ⟨w7.heap.size, 4, none⟩ (.slice km.a km.n km.c)).heap[w7.heap.size]? = some (.cells #[.string kn, .string ks, .slice kp.a kp.n kp.c, .slice kf.a kf.n kf.c, .slice km.a km.n km.c] 28 (0, 0)) := set_chain5 b7
  have g7v := fr_chain5 W7 w7.heap.size (.string kn) (.string ks) (.slice kp.a kp.n kp.c) (.slice kf.a kf.n kf.c) (.slice km.a km.n km.c)
  generalize hV7 : (World.setCell (World.setCell (World.setCell (World.setCell (World.setCell W7 ⟨w7.heap.size, 0, none⟩ (.string kn)) ⟨w7.heap.size, 1, none⟩ (.string ks)) ⟨w7.heap.size, 2, none⟩ (.slice kp.a kp.n kp.c)) ⟨w7.heap.size, 3, none⟩ (.slice kf.a kf.n kf.c)) ⟨w7.heap.size, 4, none⟩ (.slice km.a km.n km.c)) = V7 at *
  have g7' : Fr no w7 V7 := g7.trans g7v (fun _ _ f => f) (fun i hi e => by omega)
  obtain ⟨⟨c0, c1, c2, c3, c4⟩, z0, z1, z2, z3, z4⟩ := cells5z b7
  obtain ⟨⟨d0, d1, d2, d3, d4⟩, -⟩ := cells5z b7v
  have f67 : Fr no V6 V7 := (f6.new f7 (fun _ _ f => f)).new g7' (fun _ _ f => f)
  obtain ⟨⟨p0, p1, p2, p3, p4⟩, -⟩ := cells5z (f67.heap HV6.out.2.2.1 (fun f => f))
  have S := same_any V7 (ctK (w2.heap.size + 1 + 1) r) ⟨kn, ks, kp, kf, km⟩ _ (HV6.out.2.2.2.2.2.kept f67) (hcl.kept g7')
  unfold ksV ctK e0 at S
  simp only [] at S
  have HF67 : Hid (Fr no V6 V7) := f67
  unfold ksV
  simp only []
  clear f67 g7' g7v b7v g7 b7 hcl f7 f6 fw6
  go_wp2_with fail
  clear hW7 hV7 c0 c1 c2 c3 c4 z0 z1 z2 z3 z4 d0 d1 d2 d3 d4 p0 p1 p2 p3 p4 s7
  refine S.mono ?_
  rintro x w8 ⟨rfl, f8⟩
  clear S
  have f68 : Fr no V6 w8 := HF67.out.new f8 (fun _ _ f => f)
  have hK8 := f68.heap HV6.out.2.1 (fun f => f)
  have hP8 := f68.heap HV6.out.2.2.1 (fun f => f)
  have hq8 := f68.heap HV6.out.2.2.2.1 (fun f => f)
  have hr8 := f68.heap HV6.out.2.2.2.2.1 (fun f => f)
  have fw8 := HV6.out.1.new f68 (fun _ _ f => f)
  have hlt8 : w2.heap.size < w8.heap.size := ltHeap hP8
  have hltq8 : q < w8.heap.size := ltHeap hq8
  have hltr8 : r < w8.heap.size := ltHeap hr8
  obtain ⟨⟨k0, k1, k2, k3, k4⟩, -⟩ := cells5z hK8
  have H8 : Hid (Fr no w w8 ∧ w8.heap[w2.heap.size]? = some (.cells #[.string ⟨#[77, 97, 105, 110]⟩, .string ⟨#[]⟩, .slice (some ⟨w2.heap.size + 1 + 1, 0, none⟩) 1 1, .slice none 0 0, .slice (some ⟨r, 0, none⟩) 1 1] 28 (0, 0)) ∧ w8.heap[q]? = some (.cells #[.int .i64 33, .int .i64 0] 57 (0, 0)) ∧ w8.heap[r]? = some (.cells #[.string ⟨#[109, 97, 105, 110]⟩, .slice none 0 0, .int .i64 0, .string ⟨#[]⟩, .int .i64 1, .int .i64 0, .slice (some ⟨q, 0, none⟩) 1 1, .slice none 0 0] 53 (0, 0))) := ⟨fw8, hP8, hq8, hr8⟩
  clear hK8 hP8 hq8 hr8 fw8 f68 f8 HV6 HF67
  have b9 := heap_alloc_new w8 (.cells #[.int .i64 0, .int .i64 0, .complex .f64 0 0, .string ⟨#[]⟩, .string ⟨#[]⟩] 39)
  have s9 := size_alloc w8 (.cells #[.int .i64 0, .int .i64 0, .complex .f64 0 0, .string ⟨#[]⟩, .string ⟨#[]⟩] 39)
  have g9 : Fr no w8 (w8.alloc (.cells #[.int .i64 0, .int .i64 0, .complex .f64 0 0, .string ⟨#[]⟩, .string ⟨#[]⟩] 39)) := (Fr.refl no w8).alloc _ _
  generalize hW9 : w8.alloc (.cells #[.int .i64 0, .int .i64 0, .complex .f64 0 0, .string ⟨#[]⟩, .string ⟨#[]⟩] 39) = W9 at *
  have b9v : (World.setCell (World.setCell (World.setCell (World.setCell (World.setCell W9 ⟨w8.heap.size, 0, none⟩ (.int .i64 5)) ⟨w8.heap.size, 1, none⟩ (.int .i64 0)) ⟨w8.heap.size, 2, none⟩ (.complex .f64 0 0)) ⟨w8.heap.size, 3, none⟩ (.string ⟨#[77, 97, 105, 110]⟩)) ⟨w8.heap.size, 4, none⟩ (.string ⟨#[120]⟩)).heap[w8.heap.size]? = some (.cells #[.int .i64 5, .int .i64 0, .complex .f64 0 0, .string ⟨#[77, 97, 105, 110]⟩, .string ⟨#[120]⟩] 39 (0, 0)) := set_chain5 b9
  have g9v := fr_chain5 W9 w8.heap.size (.int .i64 5) (.int .i64 0) (.complex .f64 0 0) (.string ⟨#[77, 97, 105, 110]⟩) (.string ⟨#[120]⟩)
  have s9v : (World.setCell (World.setCell (World.setCell (World.setCell (World.setCell W9 ⟨w8.heap.size, 0, none⟩ (.int .i64 5)) ⟨w8.heap.size, 1, none⟩ (.int .i64 0)) ⟨w8.heap.size, 2, none⟩ (.complex .f64 0 0)) ⟨w8.heap.size, 3, none⟩ (.string ⟨#[77, 97, 105, 110]⟩)) ⟨w8.heap.size, 4, none⟩ (.string ⟨#[120]⟩)).heap.size = w8.heap.size + 1 := by rw [← s9]; simp
  generalize hV9 : (World.setCell (World.setCell (World.setCell (World.setCell (World.setCell W9 ⟨w8.heap.size, 0, none⟩ (.int .i64 5)) ⟨w8.heap.size, 1, none⟩ (.int .i64 0)) ⟨w8.heap.size, 2, none⟩ (.complex .f64 0 0)) ⟨w8.heap.size, 3, none⟩ (.string ⟨#[77, 97, 105, 110]⟩)) ⟨w8.heap.size, 4, none⟩ (.string ⟨#[120]⟩)) = V9 at *
  have g9' : Fr no w8 V9 := g9.trans g9v (fun _ _ f => f) (fun i hi e => by omega)
  obtain ⟨⟨y0, y1, y2, y3, y4⟩, yz0, yz1, yz2, yz3, yz4⟩ := cells5z b9
  obtain ⟨⟨e0', e1', e2', e3', e4'⟩, ez0, ez1, ez2, ez3, ez4⟩ := cells5z b9v
  rcases (show b % 3 = 0 ∨ b % 3 = 1 ∨ b % 3 = 2 by omega) with hbv | hbv | hbv
  · have hb3 : (b % 3 == 0) = true := by rw [hbv]; rfl
    have hb4 : (b % 3 == 1) = false := by rw [hbv]; rfl
    clear hbv
    have b10 : (World.setCell V9 ⟨w8.heap.size, 1, none⟩ (.int .i64 1)).heap[w8.heap.size]? = some (.cells #[.int .i64 5, .int .i64 1, .complex .f64 0 0, .string ⟨#[77, 97, 105, 110]⟩, .string ⟨#[120]⟩] 39 (0, 0)) := by
      unfold World.setCell
      rw [Array.getElem?_modify, if_pos rfl, b9v]
      rfl
    have g10 : Fr (fun k => k = w8.heap.size) V9 (World.setCell V9 ⟨w8.heap.size, 1, none⟩ (.int .i64 1)) := (Fr.refl (fun k => k = w8.heap.size) V9).setCell (p := ⟨w8.heap.size, 1, none⟩) (fun _ => rfl) (.int .i64 1)
    have s10 : (World.setCell V9 ⟨w8.heap.size, 1, none⟩ (.int .i64 1)).heap.size = w8.heap.size + 1 := by rw [← s9v]; simp
    generalize hV10 : (World.setCell V9 ⟨w8.heap.size, 1, none⟩ (.int .i64 1)) = V10 at *
    have g10' : Fr no w8 V10 := g9'.trans g10 (fun _ _ f => f) (fun i hi e => by omega)
    obtain ⟨⟨h0, h1, h2, h3, h4⟩, -⟩ := cells5z b10
    have b11 := heap_alloc_new V10 (.cells #[.int .i64 5, .int .i64 1, .complex .f64 0 0, .string ⟨#[77, 97, 105, 110]⟩, .string ⟨#[120]⟩] 39)
    have g11 : Fr no V10 (V10.alloc (.cells #[.int .i64 5, .int .i64 1, .complex .f64 0 0, .string ⟨#[77, 97, 105, 110]⟩, .string ⟨#[120]⟩] 39)) := (Fr.refl no V10).alloc _ _
    rw [s10] at b11
    generalize hW11 : V10.alloc (.cells #[.int .i64 5, .int .i64 1, .complex .f64 0 0, .string ⟨#[77, 97, 105, 110]⟩, .string ⟨#[120]⟩] 39) = W11 at *
    have bx11 := g11.heap (g10'.heap H8.out.2.1 (fun f => f)) (fun f => f)
    obtain ⟨⟨i0, i1, i2, i3, i4⟩, iz0, iz1, iz2, iz3, iz4⟩ := cells5z bx11
    have g12 : Fr (fun k => k = w2.heap.size) W11 (World.setCell W11 ⟨w2.heap.size, 2, none⟩ (.slice (some ⟨w8.heap.size + 1, 0, none⟩) 1 1)) := (Fr.refl (fun k => k = w2.heap.size) W11).setCell (p := ⟨w2.heap.size, 2, none⟩) (fun _ => rfl) _
    have bx12 : (World.setCell W11 ⟨w2.heap.size, 2, none⟩ (.slice (some ⟨w8.heap.size + 1, 0, none⟩) 1 1)).heap[w2.heap.size]? = some (.cells #[.string ⟨#[77, 97, 105, 110]⟩, .string ⟨#[]⟩, .slice (some ⟨w8.heap.size + 1, 0, none⟩) 1 1, .slice none 0 0, .slice (some ⟨r, 0, none⟩) 1 1] 28 (0, 0)) := by
      unfold World.setCell
      rw [Array.getElem?_modify, if_pos rfl, bx11]
      rfl
    generalize hV12 : World.setCell W11 ⟨w2.heap.size, 2, none⟩ (.slice (some ⟨w8.heap.size + 1, 0, none⟩) 1 1) = V12 at *
    obtain ⟨⟨j0, j1, j2, j3, j4⟩, -⟩ := cells5z bx12
    have hq12 := g12.heap (g11.heap (g10'.heap H8.out.2.2.1 (fun f => f)) (fun f => f)) (fun e => by omega)
    have hr12 := g12.heap (g11.heap (g10'.heap H8.out.2.2.2 (fun f => f)) (fun f => f)) (fun e => by omega)
    have fw12 : Fr no w V12 := ((H8.out.1.new g10' (fun _ _ f => f)).new g11 (fun _ _ f => f)).trans g12 (fun _ _ f => f) (fun i hi e => by omega)
    have CB : ClAt V12 (ctK (w8.heap.size + 1) r) (ctC (⟨5, 1, 0, 0, ⟨#[77, 97, 105, 110]⟩, ⟨#[120]⟩⟩ : Cs)) := ct_at (x := (⟨5, 1, 0, 0, ⟨#[77, 97, 105, 110]⟩, ⟨#[120]⟩⟩ : Cs)) (g12.heap b11 (fun e => by omega)) hq12 hr12
    have C := check_any V12 (HTR.out V12 fw12).1 (HTR.out V12 fw12).2 _ _ CB (ct_fitC (⟨5, 1, 0, 0, ⟨#[77, 97, 105, 110]⟩, ⟨#[120]⟩⟩ : Cs) (show 4 ≤ 20 by decide) (show 1 ≤ 20 by decide))
    rw [ct_chk, show ckCs (⟨5, 1, 0, 0, ⟨#[77, 97, 105, 110]⟩, ⟨#[120]⟩⟩ : Cs) = 51 from by decide] at C
    unfold ksV ctK e0 at C
    simp only [] at C
    clear CB hq12 hr12 bx12 g12 bx11 g11 b11 g10' g10 b10 g9' g9v b9v g9 b9
    go_wp2_with fail
    refine C.mono ?_
    rintro x w13 ⟨rfl, f13⟩
    go_wp2_with fail
    go_ret
    exact ⟨rfl, fw12.new f13 (fun _ _ f => f)⟩
  · have hb3 : (b % 3 == 0) = false := by rw [hbv]; rfl
    have hb4 : (b % 3 == 1) = true := by rw [hbv]; rfl
    clear hbv
    have b10 : (World.setCell V9 ⟨w8.heap.size, 2, none⟩ (.complex .f64 4607182418800017408 0)).heap[w8.heap.size]? = some (.cells #[.int .i64 5, .int .i64 0, .complex .f64 4607182418800017408 0, .string ⟨#[77, 97, 105, 110]⟩, .string ⟨#[120]⟩] 39 (0, 0)) := by
      unfold World.setCell
      rw [Array.getElem?_modify, if_pos rfl, b9v]
      rfl
    have g10 : Fr (fun k => k = w8.heap.size) V9 (World.setCell V9 ⟨w8.heap.size, 2, none⟩ (.complex .f64 4607182418800017408 0)) := (Fr.refl (fun k => k = w8.heap.size) V9).setCell (p := ⟨w8.heap.size, 2, none⟩) (fun _ => rfl) (.complex .f64 4607182418800017408 0)
    have s10 : (World.setCell V9 ⟨w8.heap.size, 2, none⟩ (.complex .f64 4607182418800017408 0)).heap.size = w8.heap.size + 1 := by rw [← s9v]; simp
    generalize hV10 : (World.setCell V9 ⟨w8.heap.size, 2, none⟩ (.complex .f64 4607182418800017408 0)) = V10 at *
    have g10' : Fr no w8 V10 := g9'.trans g10 (fun _ _ f => f) (fun i hi e => by omega)
    obtain ⟨⟨h0, h1, h2, h3, h4⟩, -⟩ := cells5z b10
    have b11 := heap_alloc_new V10 (.cells #[.int .i64 5, .int .i64 0, .complex .f64 4607182418800017408 0, .string ⟨#[77, 97, 105, 110]⟩, .string ⟨#[120]⟩] 39)
    have g11 : Fr no V10 (V10.alloc (.cells #[.int .i64 5, .int .i64 0, .complex .f64 4607182418800017408 0, .string ⟨#[77, 97, 105, 110]⟩, .string ⟨#[120]⟩] 39)) := (Fr.refl no V10).alloc _ _
    rw [s10] at b11
    generalize hW11 : V10.alloc (.cells #[.int .i64 5, .int .i64 0, .complex .f64 4607182418800017408 0, .string ⟨#[77, 97, 105, 110]⟩, .string ⟨#[120]⟩] 39) = W11 at *
    have bx11 := g11.heap (g10'.heap H8.out.2.1 (fun f => f)) (fun f => f)
    obtain ⟨⟨i0, i1, i2, i3, i4⟩, iz0, iz1, iz2, iz3, iz4⟩ := cells5z bx11
    have g12 : Fr (fun k => k = w2.heap.size) W11 (World.setCell W11 ⟨w2.heap.size, 2, none⟩ (.slice (some ⟨w8.heap.size + 1, 0, none⟩) 1 1)) := (Fr.refl (fun k => k = w2.heap.size) W11).setCell (p := ⟨w2.heap.size, 2, none⟩) (fun _ => rfl) _
    have bx12 : (World.setCell W11 ⟨w2.heap.size, 2, none⟩ (.slice (some ⟨w8.heap.size + 1, 0, none⟩) 1 1)).heap[w2.heap.size]? = some (.cells #[.string ⟨#[77, 97, 105, 110]⟩, .string ⟨#[]⟩, .slice (some ⟨w8.heap.size + 1, 0, none⟩) 1 1, .slice none 0 0, .slice (some ⟨r, 0, none⟩) 1 1] 28 (0, 0)) := by
      unfold World.setCell
      rw [Array.getElem?_modify, if_pos rfl, bx11]
      rfl
    generalize hV12 : World.setCell W11 ⟨w2.heap.size, 2, none⟩ (.slice (some ⟨w8.heap.size + 1, 0, none⟩) 1 1) = V12 at *
    obtain ⟨⟨j0, j1, j2, j3, j4⟩, -⟩ := cells5z bx12
    have hq12 := g12.heap (g11.heap (g10'.heap H8.out.2.2.1 (fun f => f)) (fun f => f)) (fun e => by omega)
    have hr12 := g12.heap (g11.heap (g10'.heap H8.out.2.2.2 (fun f => f)) (fun f => f)) (fun e => by omega)
    have fw12 : Fr no w V12 := ((H8.out.1.new g10' (fun _ _ f => f)).new g11 (fun _ _ f => f)).trans g12 (fun _ _ f => f) (fun i hi e => by omega)
    have CB : ClAt V12 (ctK (w8.heap.size + 1) r) (ctC (⟨5, 0, 4607182418800017408, 0, ⟨#[77, 97, 105, 110]⟩, ⟨#[120]⟩⟩ : Cs)) := ct_at (x := (⟨5, 0, 4607182418800017408, 0, ⟨#[77, 97, 105, 110]⟩, ⟨#[120]⟩⟩ : Cs)) (g12.heap b11 (fun e => by omega)) hq12 hr12
    have C := check_any V12 (HTR.out V12 fw12).1 (HTR.out V12 fw12).2 _ _ CB (ct_fitC (⟨5, 0, 4607182418800017408, 0, ⟨#[77, 97, 105, 110]⟩, ⟨#[120]⟩⟩ : Cs) (show 4 ≤ 20 by decide) (show 1 ≤ 20 by decide))
    rw [ct_chk, show ckCs (⟨5, 0, 4607182418800017408, 0, ⟨#[77, 97, 105, 110]⟩, ⟨#[120]⟩⟩ : Cs) = 51 from by decide] at C
    unfold ksV ctK e0 at C
    simp only [] at C
    clear CB hq12 hr12 bx12 g12 bx11 g11 b11 g10' g10 b10 g9' g9v b9v g9 b9
    go_wp2_with fail
    refine C.mono ?_
    rintro x w13 ⟨rfl, f13⟩
    go_wp2_with fail
    go_ret
    exact ⟨rfl, fw12.new f13 (fun _ _ f => f)⟩
  · have hb3 : (b % 3 == 0) = false := by rw [hbv]; rfl
    have hb4 : (b % 3 == 1) = false := by rw [hbv]; rfl
    clear hbv
    have b10 : (World.setCell V9 ⟨w8.heap.size, 0, none⟩ (.int .i64 9)).heap[w8.heap.size]? = some (.cells #[.int .i64 9, .int .i64 0, .complex .f64 0 0, .string ⟨#[77, 97, 105, 110]⟩, .string ⟨#[120]⟩] 39 (0, 0)) := by
      unfold World.setCell
      rw [Array.getElem?_modify, if_pos rfl, b9v]
      rfl
    have g10 : Fr (fun k => k = w8.heap.size) V9 (World.setCell V9 ⟨w8.heap.size, 0, none⟩ (.int .i64 9)) := (Fr.refl (fun k => k = w8.heap.size) V9).setCell (p := ⟨w8.heap.size, 0, none⟩) (fun _ => rfl) (.int .i64 9)
    have s10 : (World.setCell V9 ⟨w8.heap.size, 0, none⟩ (.int .i64 9)).heap.size = w8.heap.size + 1 := by rw [← s9v]; simp
    generalize hV10 : (World.setCell V9 ⟨w8.heap.size, 0, none⟩ (.int .i64 9)) = V10 at *
    have g10' : Fr no w8 V10 := g9'.trans g10 (fun _ _ f => f) (fun i hi e => by omega)
    obtain ⟨⟨h0, h1, h2, h3, h4⟩, -⟩ := cells5z b10
    have b11 := heap_alloc_new V10 (.cells #[.int .i64 9, .int .i64 0, .complex .f64 0 0, .string ⟨#[77, 97, 105, 110]⟩, .string ⟨#[120]⟩] 39)
    have g11 : Fr no V10 (V10.alloc (.cells #[.int .i64 9, .int .i64 0, .complex .f64 0 0, .string ⟨#[77, 97, 105, 110]⟩, .string ⟨#[120]⟩] 39)) := (Fr.refl no V10).alloc _ _
    rw [s10] at b11
    generalize hW11 : V10.alloc (.cells #[.int .i64 9, .int .i64 0, .complex .f64 0 0, .string ⟨#[77, 97, 105, 110]⟩, .string ⟨#[120]⟩] 39) = W11 at *
    have bx11 := g11.heap (g10'.heap H8.out.2.1 (fun f => f)) (fun f => f)
    obtain ⟨⟨i0, i1, i2, i3, i4⟩, iz0, iz1, iz2, iz3, iz4⟩ := cells5z bx11
    have g12 : Fr (fun k => k = w2.heap.size) W11 (World.setCell W11 ⟨w2.heap.size, 2, none⟩ (.slice (some ⟨w8.heap.size + 1, 0, none⟩) 1 1)) := (Fr.refl (fun k => k = w2.heap.size) W11).setCell (p := ⟨w2.heap.size, 2, none⟩) (fun _ => rfl) _
    have bx12 : (World.setCell W11 ⟨w2.heap.size, 2, none⟩ (.slice (some ⟨w8.heap.size + 1, 0, none⟩) 1 1)).heap[w2.heap.size]? = some (.cells #[.string ⟨#[77, 97, 105, 110]⟩, .string ⟨#[]⟩, .slice (some ⟨w8.heap.size + 1, 0, none⟩) 1 1, .slice none 0 0, .slice (some ⟨r, 0, none⟩) 1 1] 28 (0, 0)) := by
      unfold World.setCell
      rw [Array.getElem?_modify, if_pos rfl, bx11]
      rfl
    generalize hV12 : World.setCell W11 ⟨w2.heap.size, 2, none⟩ (.slice (some ⟨w8.heap.size + 1, 0, none⟩) 1 1) = V12 at *
    obtain ⟨⟨j0, j1, j2, j3, j4⟩, -⟩ := cells5z bx12
    have hq12 := g12.heap (g11.heap (g10'.heap H8.out.2.2.1 (fun f => f)) (fun f => f)) (fun e => by omega)
    have hr12 := g12.heap (g11.heap (g10'.heap H8.out.2.2.2 (fun f => f)) (fun f => f)) (fun e => by omega)
    have fw12 : Fr no w V12 := ((H8.out.1.new g10' (fun _ _ f => f)).new g11 (fun _ _ f => f)).trans g12 (fun _ _ f => f) (fun i hi e => by omega)
    have CB : ClAt V12 (ctK (w8.heap.size + 1) r) (ctC (⟨9, 0, 0, 0, ⟨#[77, 97, 105, 110]⟩, ⟨#[120]⟩⟩ : Cs)) := ct_at (x := (⟨9, 0, 0, 0, ⟨#[77, 97, 105, 110]⟩, ⟨#[120]⟩⟩ : Cs)) (g12.heap b11 (fun e => by omega)) hq12 hr12
    have C := check_any V12 (HTR.out V12 fw12).1 (HTR.out V12 fw12).2 _ _ CB (ct_fitC (⟨9, 0, 0, 0, ⟨#[77, 97, 105, 110]⟩, ⟨#[120]⟩⟩ : Cs) (show 4 ≤ 20 by decide) (show 1 ≤ 20 by decide))
    rw [ct_chk, show ckCs (⟨9, 0, 0, 0, ⟨#[77, 97, 105, 110]⟩, ⟨#[120]⟩⟩ : Cs) = 51 from by decide] at C
    unfold ksV ctK e0 at C
    simp only [] at C
    clear CB hq12 hr12 bx12 g12 bx11 g11 b11 g10' g10 b10 g9' g9v b9v g9 b9
    go_wp2_with fail
    refine C.mono ?_
    rintro x w13 ⟨rfl, f13⟩
    go_wp2_with fail
    go_ret
    exact ⟨rfl, fw12.new f13 (fun _ _ f => f)⟩

theorem consts_any (w : World) (T : Tb w) (R : Tr w) (a : Int) (ha0 : 0 ≤ a) (ha1 : a ≤ 255) (n : Int) (hn0 : -9223372036854775808 ≤ n) (hn1 : n ≤ 9223372036854775807) (b : Int) (hb0 : 0 ≤ b) (hb1 : b ≤ 255) : Calls Tryz.prog 4 #[.int .u8 a, .int .i64 n, .int .u8 b] w fun e w' => e = .returned (.bool true) ∧ Fr no w w' := by
  rcases (show a % 5 = 0 ∨ a % 5 = 1 ∨ a % 5 = 2 ∨ a % 5 = 3 ∨ a % 5 = 4 by omega) with h | h | h | h | h
  · exact consts1 w T R a ha0 ha1 n hn0 hn1 b hb0 hb1 h
  · exact consts2 w T R a ha0 ha1 n b hb0 hb1 h
  · exact consts3 w T R a ha0 ha1 n b hb0 hb1 h
  · exact consts4 w T R a ha0 ha1 n b hb0 hb1 h
  · exact consts5 w T R a ha0 ha1 n b hb0 hb1 h
end Go.Proofs.YthncdbobjeeeaaaGreatDoor

