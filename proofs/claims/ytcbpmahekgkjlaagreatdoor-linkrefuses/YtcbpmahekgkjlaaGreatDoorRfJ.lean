/- What is missing, stands twice or has other types is refused. -/
import Derived.Test.YtcbpmahekgkjlaaGreatDoorRf0J
namespace Go.Proofs.YtcbpmahekgkjlaaGreatDoor
open Go.ChangeShapes Go.WideShapes Go.ChangeAt Go.RowKit
open H (ix NewV)

theorem fit_mk {n s : ByteArray} {pl : List Cs} {fd : Fd} {mt : Mt} (hn : fitS n) (hs : fitS s) (hp : ∀ x ∈ pl, fitS x.c ∧ fitS x.m) (hf : fitS fd.name ∧ fitS fd.ty.c) (hm : FitM mt) : FitC ⟨n, s, pl, [fd], [mt]⟩ := by
  refine ⟨hn, hs, hp, fun x hx => ?_, fun m hm' => ?_⟩
  · simp only [List.mem_cons, List.not_mem_nil, or_false] at hx
    subst hx
    exact hf
  · simp only [List.mem_cons, List.not_mem_nil, or_false] at hm'
    subst hm'
    exact hm

theorem rf_fit : ∀ i, i < 9 → ∀ c ∈ rf i, FitC c := by
  have hA : FitC clA := fit_ch 1 true 0
  have hB : FitC clB := fit_ch 1 true 1
  have hr : FitM (retM sm) := fit_ret _ (by decide)
  have fs : ∀ s : ByteArray, s.size ≤ 100 → fitS s := fun s h => by unfold fitS; omega
  have two : ∀ (X Y : Cl), FitC X → FitC Y → ∀ c ∈ [mainC, X, Y], FitC c := fun X Y hX hY c hc => by
    simp only [List.mem_cons, List.not_mem_nil, or_false] at hc
    rcases hc with rfl | rfl | rfl
    · exact fit_main
    · exact hX
    · exact hY
  intro i hi
  match i, hi with
  | 0, _ => exact two _ _ hA (fit_mk (fs _ (by decide)) (fs _ (by decide)) (fun x hx => by simp at hx) ⟨fs _ (by decide), fs _ (by decide)⟩ hr)
  | 1, _ => exact two _ _ hA (fit_mk (fs _ (by decide)) (fs _ (by decide)) (fun x hx => by simp at hx) ⟨fs _ (by decide), fs _ (by decide)⟩ ⟨fs _ (by decide), fs _ (by decide), fun t ht => by
      simp only [mtX, List.mem_cons, List.not_mem_nil, or_false] at ht
      subst ht
      exact fs _ (by decide)⟩)
  | 2, _ => exact two _ _ (fit_mk (fs _ (by decide)) (fs _ (by decide)) (fun x hx => by simp at hx) ⟨fs _ (by decide), fs _ (by decide)⟩ hr) hB
  | 3, _ => exact two _ _ (fit_mk (fs _ (by decide)) (fs _ (by decide)) (fun x hx => by
      simp only [List.mem_cons, List.not_mem_nil, or_false] at hx
      subst hx
      exact ⟨fs _ (by decide), fs _ (by decide)⟩) ⟨fs _ (by decide), fs _ (by decide)⟩ hr) hB
  | 4, _ => exact two _ _ (fit_mk (fs _ (by decide)) (fs _ (by decide)) (fun x hx => by
      simp only [List.mem_cons, List.not_mem_nil, or_false] at hx
      subst hx
      exact ⟨fs _ (by decide), fs _ (by decide)⟩) ⟨fs _ (by decide), fs _ (by decide)⟩ hr) hB
  | 5, _ => exact two _ _ (fit_mk (fs _ (by decide)) (fs _ (by decide)) (fun x hx => by
      simp only [List.mem_cons, List.not_mem_nil, or_false] at hx
      subst hx
      exact ⟨fs _ (by decide), fs _ (by decide)⟩) ⟨fs _ (by decide), fs _ (by decide)⟩ hr) hB
  | 6, _ =>
      intro c hc
      have hc' : c ∈ [clA, clB] := hc
      simp only [List.mem_cons, List.not_mem_nil, or_false] at hc'
      rcases hc' with rfl | rfl
      · exact hA
      · exact hB
  | 7, _ => exact two _ _ hA (fit_mk (fs _ (by decide)) (fs _ (by decide)) (fun x hx => by simp at hx) ⟨fs _ (by decide), fs _ (by decide)⟩ hr)
  | 8, _ => exact two _ _ hA hB

theorem rf_len : ∀ i : Fin 9, (rf i.val).length ≤ 1000 := by decide +kernel

/-- Link of the i-th. -/
theorem rf_links {w : World} (T : Tb w) (Rt : Tr w) {v : Value} (i : Nat) (hi : i < 9) (h : CsAt w v (rf i)) :
    Calls Tryz.prog 7 #[v] w fun e w' => ∃ q, e = .returned (.tuple #[.pointer q, .int .i64 (rfE i)]) ∧ (rfE i ≠ 0 → q = none) ∧ (rfE i = 0 → ∃ p, q = some ⟨p, 0, none⟩) ∧ Fr no w w' := by
  have hl : linkE (rf i) = rfE i := rf_link ⟨i, hi⟩
  have hlen : (rf i).length ≤ 1000 := rf_len ⟨i, hi⟩
  have hfit := rf_fit i hi
  generalize rf i = cs at *
  generalize rfE i = e0 at *
  subst hl
  refine (link_any w T Rt v _ h hfit hlen).mono ?_
  rintro e w' ⟨q, rfl, hat, f⟩
  exact ⟨q, rfl, hat.1, fun e => by obtain ⟨p, rfl, _⟩ := hat.2 e; exact ⟨p, rfl⟩, f⟩

theorem two_u8 (w : World) : H.SlG elU (w.alloc (.cells #[.int .u8 0, .int .u8 0] 5)) (.slice (some ⟨w.heap.size, 0, none⟩) 2 2) [0, 0] := (H.own_lit (K := elU) w [0, 0] _ rfl (by decide)).sl
theorem two_bl (w : World) : H.SlG elB (w.alloc (.cells #[.bool true, .bool true] 4)) (.slice (some ⟨w.heap.size, 0, none⟩) 2 2) [true, true] := (H.own_lit (K := elB) w [true, true] _ rfl (by decide)).sl

theorem Three.cap3 {w1 w : World} {v : Value} {s0 : Ks} {r cap g1 m1 c1 g2 m2 c2 : Nat} (T : Three w1 w v s0 r cap g1 m1 c1 g2 m2 c2) : 3 ≤ cap ∧ cap ≤ maxLen := by
  obtain ⟨ad, cap', e, h1, h2, hit⟩ := T.own.sl okKs
  rw [T.hv] at e
  simp only [Value.slice.injEq] at e
  obtain ⟨rfl, -, rfl⟩ := e
  exact ⟨h1, h2⟩
theorem Three.tail {w1 w : World} {v : Value} {s0 : Ks} {r cap g1 m1 c1 g2 m2 c2 : Nat} (T : Three w1 w v s0 r cap g1 m1 c1 g2 m2 c2) : CsAt w (.slice (some ⟨r, 5, none⟩) 2 (cap - 1)) [clA, clB] := by
  obtain ⟨hc1, hc2⟩ := T.cap3
  obtain ⟨ad, cap', e, h1, h2, hit⟩ := T.own.sl okKs
  rw [T.hv] at e
  simp only [Value.slice.injEq] at e
  obtain ⟨rfl, -, rfl⟩ := e
  have F := Fr.refl (fun k => k = g1 + m1 + c1 + g2 + m2 + c2 + 1) w
  refine ⟨⟨[sA g1 m1, sB g2 m2], ⟨_, _, rfl, by show 2 ≤ cap - 1; omega, by omega, fun i x hx => ?_⟩, rfl, fun i s c hs hc => ?_⟩⟩
  · have hx' : [s0, sA g1 m1, sB g2 m2][i + 1]? = some x := hx
    obtain ⟨b, off, e1, h3⟩ := hit (i + 1) x hx'
    simp only [Option.some.injEq, Addr.mk.injEq, and_true] at e1
    obtain ⟨rfl, rfl⟩ := e1
    refine ⟨r, 5, rfl, fun j u hj => ?_⟩
    have := h3 j u hj
    have e5 : elKs.n = 5 := rfl
    rw [e5] at this ⊢
    rw [show 5 + i * 5 + j = 0 + (i + 1) * 5 + j by omega]
    exact this
  · match i, hs, hc with
    | 0, hs, hc => simp at hs hc; subst hs hc; exact T.A F (by omega) (by omega) (by omega)
    | 1, hs, hc => simp at hs hc; subst hs hc; exact T.B F (by omega) (by omega) (by omega)
    | i + 2, hs, hc => simp at hs
theorem Three.cells {w1 w : World} {v : Value} {s0 : Ks} {r cap g1 m1 c1 g2 m2 c2 : Nat} (T : Three w1 w v s0 r cap g1 m1 c1 g2 m2 c2) :
    w.cell? ⟨r, 7, none⟩ = some (.slice none 0 0) ∧ w.cell? ⟨r, 8, none⟩ = some (.slice (some ⟨g1, 0, none⟩) 1 1) ∧ w.cell? ⟨r, 11, none⟩ = some (.string (lt 0)) ∧ w.cell? ⟨r, 13, none⟩ = some (.slice (some ⟨g2, 0, none⟩) 1 1) ∧ w.cell? ⟨r, 14, none⟩ = some (.slice (some ⟨m2, 0, none⟩) 1 1) := by
  obtain ⟨ad, cap', e, -, -, hit⟩ := T.own.sl okKs
  rw [T.hv] at e
  simp only [Value.slice.injEq] at e
  obtain ⟨rfl, -, rfl⟩ := e
  obtain ⟨b, off, e1, h1⟩ := hit 1 _ rfl
  obtain ⟨b', off', e2, h2⟩ := hit 2 _ rfl
  simp only [Option.some.injEq, Addr.mk.injEq, and_true] at e1 e2
  obtain ⟨rfl, rfl⟩ := e1
  obtain ⟨rfl, rfl⟩ := e2
  exact ⟨h1 2 _ rfl, h1 3 _ rfl, h2 1 _ rfl, h2 3 _ rfl, h2 4 _ rfl⟩

set_option maxRecDepth 100000 in
set_option maxHeartbeats 4000000 in
theorem refuses_any (w : World) (T : Tb w) (Rt : Tr w) (a : Int) (ha : 0 ≤ a) (ha' : a ≤ 255) :
    Calls Tryz.prog 5 #[.int .u8 a] w fun e w' => e = .returned (.bool true) ∧ Fr no w w' := by
  have HT : Hid (Tb w ∧ Tr w) := ⟨T, Rt⟩
  have KN := known_any w T Rt
  clear T Rt
  go_enter Tryz.func5, Tryz.ntmps5
  go_wp2_with fail
  refine KN.mono ?_
  rintro e w1 ⟨rfl, f1⟩
  generalize hA1 : w1.alloc (.cells #[.int .u8 0, .int .u8 0] 5) = A1
  have G1 : Fr no w1 A1 := by rw [← hA1]; exact (Fr.refl no w1).alloc _ _
  have u1 := two_u8 w1
  rw [hA1] at u1
  generalize hA2 : A1.alloc (.cells #[.bool true, .bool true] 4) = A2
  have G2 : Fr no A1 A2 := by rw [← hA2]; exact (Fr.refl no A1).alloc _ _
  have u2 := two_bl A1
  rw [hA2] at u2
  have CH := chain_any A2 _ _ _ _ (u1.keep G2) u2 (by decide) (fun x hx => by simp at hx; omega)
  have HF : Hid (Fr no w A2) := (f1.new G1 (fun _ _ f => f)).new G2 (fun _ _ f => f)
  have hs1 : A1.heap.size = w1.heap.size + 1 := by rw [← hA1]; exact size_alloc _ _
  rw [hs1] at CH
  clear G1 G2 u1 u2 f1 KN
  go_wp2_with fail
  refine CH.mono ?_
  rintro e w3 ⟨v, wc, ks, bs, rfl, R, fc⟩
  obtain ⟨s0, r, cap, g1, m1, c1, g2, m2, c2, T3⟩ := three_of R rfl rfl rfl rfl
  have HG : Hid (Fr no w wc) := HF.out.new fc (fun _ _ f => f)
  obtain rfl := T3.hv
  have HT3 : Hid _ := T3
  clear CH R fc HF hs1 hA1 hA2 T3
  have n8 : a % 9 = 8 ∨ a % 9 < 8 := by omega
  rcases n8 with h8 | h8
  · have L8 := rf_links (HT.out.1.kept (HG.out.new HT3.out.fr (fun _ _ f => f))) (HT.out.2.kept (HG.out.new HT3.out.fr (fun _ _ f => f))) 8 (by decide) (cs3 HT3.out.own (HT3.out.main.kept HT3.out.fr) (HT3.out.A (Fr.refl (fun k => k = g1 + m1 + c1 + g2 + m2 + c2 + 1) w3) (by omega) (by omega) (by omega)) (HT3.out.B (Fr.refl (fun k => k = g1 + m1 + c1 + g2 + m2 + c2 + 1) w3) (by omega) (by omega) (by omega)))
    simp only [rfE] at L8
    have HG8 : Hid (Fr no w w3) := HG.out.new HT3.out.fr (fun _ _ f => f)
    go_wp2_with fail
    refine L8.mono ?_
    rintro e w4 ⟨q, rfl, -, hq, f4⟩
    obtain ⟨p, rfl⟩ := hq trivial
    go_wp2_with fail
    go_ret
    exact ⟨rfl, HG8.out.new f4 (fun _ _ f => f)⟩
  · have T3 := HT3.out
    obtain ⟨z7, z8, z11, z13, z14⟩ := T3.cells
    obtain ⟨rc, hrt⟩ := T3.rtag
    have hl3 := T3.lo
    have hr0 := T3.r0
    have hne := T3.ne
    have t1 := ne_tag hrt T3.f1 (by decide)
    have t2 := ne_tag hrt T3.f2 (by decide)
    have t3 := ne_tag hrt T3.m1 (by decide)
    have t4 := ne_tag hrt T3.m2 (by decide)
    have t5 := ne_tag hrt T3.c1 (by decide)
    have t6 := ne_tag hrt T3.c2 (by decide)
    have t7 := ne_tag T3.f1 T3.m1 (by decide)
    have t8 := ne_tag T3.f1 T3.m2 (by decide)
    have t9 := ne_tag T3.f1 T3.c1 (by decide)
    have ta := ne_tag T3.f1 T3.c2 (by decide)
    have tb := ne_tag T3.f2 T3.m1 (by decide)
    have tc := ne_tag T3.f2 T3.m2 (by decide)
    have td := ne_tag T3.f2 T3.c1 (by decide)
    have te := ne_tag T3.f2 T3.c2 (by decide)
    have tf := ne_tag T3.m1 T3.c1 (by decide)
    have tg := ne_tag T3.m1 T3.c2 (by decide)
    have th := ne_tag T3.m2 T3.c1 (by decide)
    have ti := ne_tag T3.m2 T3.c2 (by decide)
    have n7 : a % 9 = 0 ∨ a % 9 = 1 ∨ a % 9 = 2 ∨ a % 9 = 3 ∨ a % 9 = 4 ∨ a % 9 = 5 ∨ a % 9 = 6 ∨ a % 9 = 7 := by omega
    clear h8
    rcases n7 with h | h | h | h | h | h | h | h
    · skip
      generalize hW : w3.setCell ⟨g2, 0, none⟩ (.string ⟨#[102, 65]⟩) = W
      have F : Fr (fun k => k = g2) w3 W := by rw [← hW]; exact (Fr.refl (fun k => k = g2) w3).setCell (p := ⟨g2, 0, none⟩) (fun _ => rfl) _
      have E : W.heap[g2]? = some (.cells #[.string ⟨#[102, 65]⟩, .int .i64 1, .string e0, .bool false] 33 (0, 0)) := by rw [← hW]; exact set_at T3.f2
      have CS : CsAt W (.slice (some ⟨r, 0, none⟩) 3 cap) (rf 0) := cs3 (T3.O F (by omega)) (T3.M F (by omega)).1 (T3.A F (by omega) (by omega) (by omega)) (cl_mk (SlG.nil elCs W) E (F.heap T3.m2 (by omega)) (ret_mt sm (F.heap T3.c2 (by omega))))
      have HG8 : Hid (Fr no w W) := HG.out.new (T3.M F (by omega)).2 (fun _ _ f => f)
      have LK := rf_links (HT.out.1.kept HG8.out) (HT.out.2.kept HG8.out) 0 (by decide) CS
      have y0 := cell_at (o := 0) T3.f2
      have fz := frozen_at (o := 0) T3.f2
      simp only [List.getElem?_toArray, List.getElem?_cons_zero] at y0
      clear T3 HT3 F E CS hl3 hr0 hne t1 t2 t3 t4 t5 t6 t7 t8 t9 ta tb tc td te tf tg th ti hrt
      simp only [rfE] at LK
      go_wp2_with fail
      refine LK.mono ?_
      rintro e w4 ⟨q, rfl, hq, -, f4⟩
      obtain rfl := hq (by simp)
      go_wp2_with fail
      go_ret
      exact ⟨rfl, HG8.out.new f4 (fun _ _ f => f)⟩
    · skip
      have GV : Fr no w3 (w3.alloc (.cells #[.int .i64 1, .string ⟨#[]⟩] 31)) := (Fr.refl no w3).alloc _ _
      have zv14 := GV.cell z14 (fun f => f)
      have Em := GV.heap T3.m2 (fun f => f)
      have q1 := cell_at (o := 1) Em
      have q4 := cell_at (o := 4) Em
      have fq1 := frozen_at (o := 1) Em
      have fq4 := frozen_at (o := 4) Em
      unfold msC retS at q1 q4
      simp only [List.getElem?_toArray, List.getElem?_cons_zero, List.getElem?_cons_succ] at q1 q4
      have F : Fr (fun k => k = m2) w3 ((((w3.alloc (.cells #[.int .i64 1, .string ⟨#[]⟩] 31)).setCell ⟨m2, 1, none⟩ (.slice (some ⟨w3.heap.size, 0, none⟩) 1 1)).setCell ⟨m2, 4, none⟩ (.int .i64 2)).drew) := (((GV.mono (fun _ _ f => f.elim)).setCell (S := fun k => k = m2) (p := ⟨m2, 1, none⟩) (fun _ => rfl) _).setCell (p := ⟨m2, 4, none⟩) (fun _ => rfl) _).drew
      have EP : ((((w3.alloc (.cells #[.int .i64 1, .string ⟨#[]⟩] 31)).setCell ⟨m2, 1, none⟩ (.slice (some ⟨w3.heap.size, 0, none⟩) 1 1)).setCell ⟨m2, 4, none⟩ (.int .i64 2)).drew).heap[w3.heap.size]? = some (.cells #[.int .i64 1, .string ⟨#[]⟩] 31 (0, 0)) := by
        have hm2 := lt_of_heap T3.m2
        exact (((Fr.refl (fun k => k = m2) (w3.alloc (.cells #[.int .i64 1, .string ⟨#[]⟩] 31))).setCell (p := ⟨m2, 1, none⟩) (fun _ => rfl) _).setCell (p := ⟨m2, 4, none⟩) (fun _ => rfl) _).drew.heap (heap_alloc_new w3 _) (by omega)
      have EM : ((((w3.alloc (.cells #[.int .i64 1, .string ⟨#[]⟩] 31)).setCell ⟨m2, 1, none⟩ (.slice (some ⟨w3.heap.size, 0, none⟩) 1 1)).setCell ⟨m2, 4, none⟩ (.int .i64 2)).drew).heap[m2]? = some (.cells (msC ⟨sm, ⟨some ⟨w3.heap.size, 0, none⟩, 1, 1⟩, ⟨0, ⟨#[]⟩⟩, 2, 0, ⟨some ⟨c2, 0, none⟩, 1, 1⟩, ⟨none, 0, 0⟩⟩).toArray 51 (0, 0)) := set_at (set_at Em)
      have HW : Hid _ := And.intro F (And.intro EP EM)
      have HNE : Hid (r ≠ m2 ∧ g1 ≠ m2 ∧ m1 ≠ m2 ∧ c1 ≠ m2 ∧ g2 ≠ m2 ∧ c2 ≠ m2 ∧ wc.heap.size ≤ m2) := by
        have := hne.2.1
        exact ⟨t4, t8, this, fun e => th e.symm, tc, fun e => ti e.symm, by omega⟩
      clear GV Em T3 hl3 hr0 hne t1 t2 t3 t4 t5 t6 t7 t8 t9 ta tb tc td te tf tg th ti hrt F EP EM
      go_wp2_with fail
      go_region
      generalize (((w3.alloc (.cells #[.int .i64 1, .string ⟨#[]⟩] 31)).setCell ⟨m2, 1, none⟩ (.slice (some ⟨w3.heap.size, 0, none⟩) 1 1)).setCell ⟨m2, 4, none⟩ (.int .i64 2)).drew = W at *
      obtain ⟨F, EP, EM⟩ := HW.out
      obtain ⟨n1, n2, n3, n4, n5, n6, n7⟩ := HNE.out
      have T3 := HT3.out
      have CS : CsAt W (.slice (some ⟨r, 0, none⟩) 3 cap) (rf 1) := cs3 (T3.O F n1) (T3.M F n7).1 (T3.A F n2 n3 n4) (cl_mk (SlG.nil elCs W) (F.heap T3.f2 n5) EM ⟨rfl, rfl, rfl, rfl, (own_heap okTy [⟨1, e0⟩] EP rfl (by decide)).sl okTy, ((own_heap okIn [(33, 0)] (F.heap T3.c2 n6) rfl (by decide)).sl okIn).i, SlG.nil elHd W⟩)
      have HG8 : Hid (Fr no w W) := HG.out.new (T3.M F n7).2 (fun _ _ f => f)
      have LK := rf_links (HT.out.1.kept HG8.out) (HT.out.2.kept HG8.out) 1 (by decide) CS
      simp only [rfE] at LK
      clear HW HNE T3 HT3 F EP EM CS n1 n2 n3 n4 n5 n6 n7 z7 z8 z11 z13 z14 zv14 q1 q4 fq1 fq4
      go_wp2_with fail
      refine LK.mono ?_
      rintro e w4 ⟨q, rfl, hq, -, f4⟩
      obtain rfl := hq (by simp)
      go_wp2_with fail
      go_ret
      exact ⟨rfl, HG8.out.new f4 (fun _ _ f => f)⟩
    · skip
      have E0 : (w3.setCell ⟨g1, 1, none⟩ (.int .i64 4)).heap[g1]? = some (.cells #[.string (fnm 0), .int .i64 4, .string e0, .bool false] 33 (0, 0)) := set_at T3.f1
      have y2 := cell_at (o := 2) E0
      have fy2 := frozen_at (o := 2) E0
      generalize hW : (w3.setCell ⟨g1, 1, none⟩ (.int .i64 4)).setCell ⟨g1, 2, none⟩ (.string ⟨#[78, 111, 98, 111, 100, 121]⟩) = W
      have F : Fr (fun k => k = g1) w3 W := by rw [← hW]; exact ((Fr.refl (fun k => k = g1) w3).setCell (p := ⟨g1, 1, none⟩) (fun _ => rfl) _).setCell (p := ⟨g1, 2, none⟩) (fun _ => rfl) _
      have E : W.heap[g1]? = some (.cells #[.string (fnm 0), .int .i64 4, .string sNobody, .bool false] 33 (0, 0)) := by rw [← hW]; exact set_at E0
      have CS : CsAt W (.slice (some ⟨r, 0, none⟩) 3 cap) (rf 2) := cs3 (T3.O F (by omega)) (T3.M F (by omega)).1 (cl_mk (SlG.nil elCs W) E (F.heap T3.m1 (by omega)) (ret_mt sm (F.heap T3.c1 (by omega)))) (T3.B F (by omega) (by omega) (by omega))
      have HG8 : Hid (Fr no w W) := HG.out.new (T3.M F (by omega)).2 (fun _ _ f => f)
      have LK := rf_links (HT.out.1.kept HG8.out) (HT.out.2.kept HG8.out) 2 (by decide) CS
      have y0 := cell_at (o := 1) T3.f1
      have fz := frozen_at (o := 1) T3.f1
      simp only [List.getElem?_toArray, List.getElem?_cons_zero, List.getElem?_cons_succ] at y0 y2
      clear T3 HT3 F E E0 CS hl3 hr0 hne t1 t2 t3 t4 t5 t6 t7 t8 t9 ta tb tc td te tf tg th ti hrt
      simp only [rfE] at LK
      go_wp2_with fail
      refine LK.mono ?_
      rintro e w4 ⟨q, rfl, hq, -, f4⟩
      obtain rfl := hq (by simp)
      go_wp2_with fail
      go_ret
      exact ⟨rfl, HG8.out.new f4 (fun _ _ f => f)⟩
    · skip
      generalize hV : w3.alloc (.cells #[.int .i64 3, .int .i64 0, .complex .f64 0 0, .string ⟨#[78, 111, 98, 111, 100, 121]⟩, .string ⟨#[]⟩] 62) = V
      have GV : Fr no w3 V := by rw [← hV]; exact (Fr.refl no w3).alloc _ _
      have EV : V.heap[w3.heap.size]? = some (.cells #[.int .i64 3, .int .i64 0, .complex .f64 0 0, .string ⟨#[78, 111, 98, 111, 100, 121]⟩, .string ⟨#[]⟩] 62 (0, 0)) := by rw [← hV]; exact heap_alloc_new w3 _
      have zv7 := GV.cell z7 (fun f => f)
      have fz := frozen_at (o := 7) (GV.heap hrt (fun f => f))
      have TV := GV.heap hrt (fun f => f)
      generalize hW : V.setCell ⟨r, 7, none⟩ (.slice (some ⟨w3.heap.size, 0, none⟩) 1 1) = W
      have F0 : Fr (fun k => k = r) V W := by rw [← hW]; exact (Fr.refl (fun k => k = r) V).setCell (p := ⟨r, 7, none⟩) (fun _ => rfl) _
      have F : Fr (fun k => k = r) w3 W := GV.trans F0 (fun _ _ f => f.elim) (fun _ _ e => e)
      have hrl := lt_of_heap hrt
      have EW := F0.heap EV (by omega)
      have OW : OwnG elKs W (.slice (some ⟨r, 0, none⟩) 3 cap) [s0, ⟨lt 0, e0, ⟨some ⟨w3.heap.size, 0, none⟩, 1, 1⟩, ⟨some ⟨g1, 0, none⟩, 1, 1⟩, ⟨some ⟨m1, 0, none⟩, 1, 1⟩⟩, sB g2 m2] := by
        rw [← hW]
        exact (T3.own.keep GV).cell1 okKs (k := 1) (j := 2) rfl _ _ (by decide) rfl
      have CS : CsAt W (.slice (some ⟨r, 0, none⟩) 3 cap) (rf 3) := cs3 OW (T3.M F (by omega)).1 (cl_mk ((own_heap okCs [poolX 3] EW rfl (by decide)).sl okCs) (F.heap T3.f1 (by omega)) (F.heap T3.m1 (by omega)) (ret_mt sm (F.heap T3.c1 (by omega)))) (T3.B F (by omega) (by omega) (by omega))
      have HG8 : Hid (Fr no w W) := HG.out.new (T3.M F (by omega)).2 (fun _ _ f => f)
      have LK := rf_links (HT.out.1.kept HG8.out) (HT.out.2.kept HG8.out) 3 (by decide) CS
      clear T3 HT3 F F0 GV EV EW OW TV CS hl3 hr0 hne t1 t2 t3 t4 t5 t6 t7 t8 t9 ta tb tc td te tf tg th ti hrt
      simp only [rfE] at LK
      go_wp2_with fail
      refine LK.mono ?_
      rintro e w4 ⟨q, rfl, hq, -, f4⟩
      obtain rfl := hq (by simp)
      go_wp2_with fail
      go_ret
      exact ⟨rfl, HG8.out.new f4 (fun _ _ f => f)⟩
    · skip
      generalize hV : w3.alloc (.cells #[.int .i64 4, .int .i64 0, .complex .f64 0 0, .string ⟨#[65]⟩, .string ⟨#[102, 66]⟩] 62) = V
      have GV : Fr no w3 V := by rw [← hV]; exact (Fr.refl no w3).alloc _ _
      have EV : V.heap[w3.heap.size]? = some (.cells #[.int .i64 4, .int .i64 0, .complex .f64 0 0, .string ⟨#[65]⟩, .string ⟨#[102, 66]⟩] 62 (0, 0)) := by rw [← hV]; exact heap_alloc_new w3 _
      have zv7 := GV.cell z7 (fun f => f)
      have fz := frozen_at (o := 7) (GV.heap hrt (fun f => f))
      have TV := GV.heap hrt (fun f => f)
      generalize hW : V.setCell ⟨r, 7, none⟩ (.slice (some ⟨w3.heap.size, 0, none⟩) 1 1) = W
      have F0 : Fr (fun k => k = r) V W := by rw [← hW]; exact (Fr.refl (fun k => k = r) V).setCell (p := ⟨r, 7, none⟩) (fun _ => rfl) _
      have F : Fr (fun k => k = r) w3 W := GV.trans F0 (fun _ _ f => f.elim) (fun _ _ e => e)
      have hrl := lt_of_heap hrt
      have EW := F0.heap EV (by omega)
      have OW : OwnG elKs W (.slice (some ⟨r, 0, none⟩) 3 cap) [s0, ⟨lt 0, e0, ⟨some ⟨w3.heap.size, 0, none⟩, 1, 1⟩, ⟨some ⟨g1, 0, none⟩, 1, 1⟩, ⟨some ⟨m1, 0, none⟩, 1, 1⟩⟩, sB g2 m2] := by
        rw [← hW]
        exact (T3.own.keep GV).cell1 okKs (k := 1) (j := 2) rfl _ _ (by decide) rfl
      have CS : CsAt W (.slice (some ⟨r, 0, none⟩) 3 cap) (rf 4) := cs3 OW (T3.M F (by omega)).1 (cl_mk ((own_heap okCs [poolX 4] EW rfl (by decide)).sl okCs) (F.heap T3.f1 (by omega)) (F.heap T3.m1 (by omega)) (ret_mt sm (F.heap T3.c1 (by omega)))) (T3.B F (by omega) (by omega) (by omega))
      have HG8 : Hid (Fr no w W) := HG.out.new (T3.M F (by omega)).2 (fun _ _ f => f)
      have LK := rf_links (HT.out.1.kept HG8.out) (HT.out.2.kept HG8.out) 4 (by decide) CS
      clear T3 HT3 F F0 GV EV EW OW TV CS hl3 hr0 hne t1 t2 t3 t4 t5 t6 t7 t8 t9 ta tb tc td te tf tg th ti hrt
      simp only [rfE] at LK
      go_wp2_with fail
      refine LK.mono ?_
      rintro e w4 ⟨q, rfl, hq, -, f4⟩
      obtain rfl := hq (by simp)
      go_wp2_with fail
      go_ret
      exact ⟨rfl, HG8.out.new f4 (fun _ _ f => f)⟩
    · skip
      generalize hV : w3.alloc (.cells #[.int .i64 5, .int .i64 0, .complex .f64 0 0, .string ⟨#[77, 97, 105, 110]⟩, .string ⟨#[109]⟩] 62) = V
      have GV : Fr no w3 V := by rw [← hV]; exact (Fr.refl no w3).alloc _ _
      have EV : V.heap[w3.heap.size]? = some (.cells #[.int .i64 5, .int .i64 0, .complex .f64 0 0, .string ⟨#[77, 97, 105, 110]⟩, .string ⟨#[109]⟩] 62 (0, 0)) := by rw [← hV]; exact heap_alloc_new w3 _
      have zv7 := GV.cell z7 (fun f => f)
      have fz := frozen_at (o := 7) (GV.heap hrt (fun f => f))
      have TV := GV.heap hrt (fun f => f)
      generalize hW : V.setCell ⟨r, 7, none⟩ (.slice (some ⟨w3.heap.size, 0, none⟩) 1 1) = W
      have F0 : Fr (fun k => k = r) V W := by rw [← hW]; exact (Fr.refl (fun k => k = r) V).setCell (p := ⟨r, 7, none⟩) (fun _ => rfl) _
      have F : Fr (fun k => k = r) w3 W := GV.trans F0 (fun _ _ f => f.elim) (fun _ _ e => e)
      have hrl := lt_of_heap hrt
      have EW := F0.heap EV (by omega)
      have OW : OwnG elKs W (.slice (some ⟨r, 0, none⟩) 3 cap) [s0, ⟨lt 0, e0, ⟨some ⟨w3.heap.size, 0, none⟩, 1, 1⟩, ⟨some ⟨g1, 0, none⟩, 1, 1⟩, ⟨some ⟨m1, 0, none⟩, 1, 1⟩⟩, sB g2 m2] := by
        rw [← hW]
        exact (T3.own.keep GV).cell1 okKs (k := 1) (j := 2) rfl _ _ (by decide) rfl
      have CS : CsAt W (.slice (some ⟨r, 0, none⟩) 3 cap) (rf 5) := cs3 OW (T3.M F (by omega)).1 (cl_mk ((own_heap okCs [poolX 5] EW rfl (by decide)).sl okCs) (F.heap T3.f1 (by omega)) (F.heap T3.m1 (by omega)) (ret_mt sm (F.heap T3.c1 (by omega)))) (T3.B F (by omega) (by omega) (by omega))
      have HG8 : Hid (Fr no w W) := HG.out.new (T3.M F (by omega)).2 (fun _ _ f => f)
      have LK := rf_links (HT.out.1.kept HG8.out) (HT.out.2.kept HG8.out) 5 (by decide) CS
      clear T3 HT3 F F0 GV EV EW OW TV CS hl3 hr0 hne t1 t2 t3 t4 t5 t6 t7 t8 t9 ta tb tc td te tf tg th ti hrt
      simp only [rfE] at LK
      go_wp2_with fail
      refine LK.mono ?_
      rintro e w4 ⟨q, rfl, hq, -, f4⟩
      obtain rfl := hq (by simp)
      go_wp2_with fail
      go_ret
      exact ⟨rfl, HG8.out.new f4 (fun _ _ f => f)⟩
    · skip
      have hcap := T3.cap3
      have CS : CsAt w3 (.slice (some ⟨r, 5, none⟩) 2 (cap - 1)) (rf 6) := T3.tail
      have HG8 : Hid (Fr no w w3) := HG.out.new T3.fr (fun _ _ f => f)
      have LK := rf_links (HT.out.1.kept HG8.out) (HT.out.2.kept HG8.out) 6 (by decide) CS
      clear T3 HT3 CS hl3 hr0 hne t1 t2 t3 t4 t5 t6 t7 t8 t9 ta tb tc td te tf tg th ti hrt
      simp only [rfE] at LK
      go_wp2_with fail
      refine LK.mono ?_
      rintro e w4 ⟨q, rfl, hq, -, f4⟩
      obtain rfl := hq (by simp)
      go_wp2_with fail
      go_ret
      exact ⟨rfl, HG8.out.new f4 (fun _ _ f => f)⟩
    · skip
      generalize hW : w3.setCell ⟨r, 11, none⟩ (.string ⟨#[66]⟩) = W
      have F : Fr (fun k => k = r) w3 W := by rw [← hW]; exact (Fr.refl (fun k => k = r) w3).setCell (p := ⟨r, 11, none⟩) (fun _ => rfl) _
      have OW : OwnG elKs W (.slice (some ⟨r, 0, none⟩) 3 cap) [s0, sA g1 m1, ⟨lt 1, lt 1, ⟨none, 0, 0⟩, ⟨some ⟨g2, 0, none⟩, 1, 1⟩, ⟨some ⟨m2, 0, none⟩, 1, 1⟩⟩] := by
        rw [← hW]
        exact T3.own.cell1 okKs (k := 2) (j := 1) rfl _ _ (by decide) rfl
      have CS : CsAt W (.slice (some ⟨r, 0, none⟩) 3 cap) (rf 7) := cs3 OW (T3.M F (by omega)).1 (T3.A F (by omega) (by omega) (by omega)) (cl_mk (SlG.nil elCs W) (F.heap T3.f2 (by omega)) (F.heap T3.m2 (by omega)) (ret_mt sm (F.heap T3.c2 (by omega))))
      have HG8 : Hid (Fr no w W) := HG.out.new (T3.M F (by omega)).2 (fun _ _ f => f)
      have LK := rf_links (HT.out.1.kept HG8.out) (HT.out.2.kept HG8.out) 7 (by decide) CS
      have fz := frozen_at (o := 11) hrt
      clear T3 HT3 F OW CS hl3 hr0 hne t1 t2 t3 t4 t5 t6 t7 t8 t9 ta tb tc td te tf tg th ti hrt
      simp only [rfE] at LK
      go_wp2_with fail
      refine LK.mono ?_
      rintro e w4 ⟨q, rfl, hq, -, f4⟩
      obtain rfl := hq (by simp)
      go_wp2_with fail
      go_ret
      exact ⟨rfl, HG8.out.new f4 (fun _ _ f => f)⟩
end Go.Proofs.YtcbpmahekgkjlaaGreatDoor
