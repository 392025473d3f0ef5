/- threads, Ints, Lock, Forget. -/
import Derived.Test.YtkkpimpmhnnbjaaEx
namespace Go.Proofs.Ytkkpimpmhnnbjaa
open Go.ChangeShapes Go.WideShapes Go.ChangeAt Go.RowKit

def fsts (l : List (Int × Int)) : List Int := l.map Prod.fst

theorem RdG.two {α : Type} {K : El α} {w : World} {o : Option Addr} {n c : Nat} {l : List α} (h : RdG K w (.slice o n c) l) {i : Nat} {x : α} {u v : Value} (hn : K.n = 2) (hu : K.f x = [u, v]) (hx : l[i]? = some x) :
    ∃ b off, o = some ⟨b, off, none⟩ ∧ w.cell? ⟨b, off + i * 2, none⟩ = some u ∧ w.cell? ⟨b, off + i * 2 + 1, none⟩ = some v := by
  obtain ⟨ad, cap, he, -, -, hit⟩ := h
  obtain ⟨b, off, hb, hc⟩ := hit i x hx
  simp only [Value.slice.injEq] at he
  have h0 := hc 0 u (by rw [hu]; rfl)
  have h1 := hc 1 v (by rw [hu]; rfl)
  rw [hn] at h0 h1
  exact ⟨b, off, by rw [he.1, hb], h0, h1⟩

set_option maxRecDepth 100000 in
theorem threads_any (w : World) (v : Value) (l : List (Int × Int)) (h : OwnG elW w v l) (hl : l.length ≤ 900000) :
    Calls Try.prog 35 #[v] w fun e w' => ∃ v', e = .returned v' ∧ OwnG elI w' v' (fsts l) ∧ NewV w v' ∧ Fr no w w' := by
  have HR : Hid (RdG elW w v l) := h.rd elW_ok
  obtain ⟨o, cap, rfl⟩ := h.form
  clear h
  generalize hn : l.length = n at *
  go_enter Try.func35, Try.ntmps35
  go_wp2_with fail
  go_loopw [3, 8] (fun lv i wr => ∃ t : Nat, i = .int .i64 (t : Int) ∧ t ≤ n ∧ OwnG elI wr lv (fsts (l.take t)) ∧ NewV w lv ∧ Fr no w wr) (fun _ i _ => n - (intOf i).toNat)
  case atStart => exact ⟨0, rfl, Nat.zero_le _, OwnG.nil _ _, NewV.nil _, Fr.refl _ _⟩
  case round =>
    obtain ⟨t, rfl, htn, how, hnv, hfr⟩ := hrel
    by_cases hti : t < n
    · obtain ⟨⟨x1, x2⟩, hx⟩ : ∃ x, l[t]? = some x := ⟨_, List.getElem?_eq_getElem (by omega)⟩
      obtain ⟨b0, o0, hov, hc0, hc1⟩ := (HR.out.keep hfr).two (u := .int .i64 x1) (v := .int .i64 x2) rfl rfl hx
      subst hov
      have hti' : (t : Int) < (n : Int) := by omega
      have HS2 : Hid (fsts (l.take (t + 1)) = fsts (l.take t) ++ [x1]) := by
        rw [Hid, take_next _ _ _ hx]
        simp [fsts]
      have HSL : Hid ((fsts (l.take t)).length + [x1].length ≤ 1000000) := by
        simp only [Hid, fsts, List.length_map, List.length_take, List.length_cons, List.length_nil]
        omega
      have HX : Hid (NewV w u3 ∧ Fr no w wr) := ⟨hnv, hfr⟩
      have HO1 : Hid (OwnG elI ((wr.alloc (.cells #[.int .i64 x1, .int .i64 x2] 68)).alloc (.cells (elI.f x1).toArray elI.e)) u3 (fsts (l.take t))) := how.keep (((Fr.refl no wr).alloc _ _).alloc _ _)
      have HFR : Hid (Fr no w ((wr.alloc (.cells #[.int .i64 x1, .int .i64 x2] 68)).alloc (.cells (elI.f x1).toArray elI.e))) := (hfr.alloc _ _).alloc _ _
      have HSR : Hid (Src Try.prog elI.n elI.t (.slice (some ⟨wr.heap.size + 1, 0, none⟩) 1 1) [x1].length (cg elI [x1]) ((wr.alloc (.cells #[.int .i64 x1, .int .i64 x2] 68)).alloc (.cells (elI.f x1).toArray elI.e))) := by
        have := srcG_one elI_ok (wr.alloc (.cells #[.int .i64 x1, .int .i64 x2] 68)) x1
        have e : (wr.alloc (.cells #[.int .i64 x1, .int .i64 x2] 68)).heap.size = wr.heap.size + 1 := by show (wr.heap.push _).size = _; simp
        rw [e] at this
        exact this
      clear hx how hnv hfr
      go_wp2_with (at_builtin; refine wpList_apdG elI_ok _ rfl rfl _ _ rfl u3 (fsts (l.take t)) rfl HO1.out _ rfl [x1] HSR.out HSL.out ?_; intro v' w3 o3 s3; have H3 : Hid (OwnG elI w3 v' (fsts (l.take t) ++ [x1]) ∧ NewV w v' ∧ Fr no w w3) := ⟨o3, HX.out.1.step HFR.out s3⟩; clear o3 s3)
      go_roundw
      case rel => exact ⟨t + 1, by go_num, by omega, by rw [HS2.out]; exact H3.out.1, H3.out.2⟩
      case measure => simp [intOf]; omega
    · obtain rfl : t = n := by omega
      have HZ : Hid (OwnG elI wr u3 (fsts l) ∧ NewV w u3 ∧ Fr no w wr) := by
        rw [List.take_of_length_le (by omega)] at how
        exact ⟨how, hnv, hfr⟩
      clear how hnv hfr
      go_wp2_with fail
      go_ret
      exact ⟨_, rfl, HZ.out⟩

def sameI (a b : List Int) : Bool := decide (a = b)

set_option maxRecDepth 100000 in
theorem ints_any (w : World) (v u : Value) (a b : List Int) (hv : RdG elI w v a) (hu : RdG elI w u b) :
    Calls Try.prog 23 #[v, u] w fun e w' => e = .returned (.bool (sameI a b)) ∧ ∃ m, w' = w.drewN m := by
  have HA : Hid (RdG elI w v a) := hv
  have HB : Hid (RdG elI w u b) := hu
  obtain ⟨ad, ac, rfl, al, am, -⟩ := hv
  obtain ⟨bd, bc, rfl, bl, bm, -⟩ := hu
  unfold maxLen at am bm
  by_cases hlen : a.length = b.length
  · have hne : ((a.length : Int) == (b.length : Int)) = true := by simp; omega
    have hne' : ((a.length : Int) != (b.length : Int)) = false := by simp; omega
    go_enter Try.func23, Try.ntmps23
    generalize hla : a.length = la at *
    generalize hlb : b.length = lb at *
    subst hlen
    go_wp2_with fail
    go_loopw [5] (fun i wr => ∃ (k m : Nat), i = .int .i64 (k : Int) ∧ k ≤ la ∧ a.take k = b.take k ∧ wr = w.drewN m) (fun i _ => la - (intOf i).toNat)
    case atStart => exact ⟨0, 0, rfl, Nat.zero_le _, rfl, rfl⟩
    case round =>
      obtain ⟨k, m, rfl, hk, hE, hwr⟩ := hrel
      have HE : Hid (a.take k = b.take k) := hE
      have HR : Hid (wr = w.drewN m) := hwr
      clear hE
      by_cases hlt : k < la
      · obtain ⟨x, hx⟩ : ∃ x, a[k]? = some x := ⟨_, List.getElem?_eq_getElem (by omega)⟩
        obtain ⟨y, hy⟩ : ∃ y, b[k]? = some y := ⟨_, List.getElem?_eq_getElem (by omega)⟩
        obtain ⟨p, o, hp, c1⟩ := HA.out.at1 (u := .int .i64 x) rfl rfl hx
        obtain ⟨p2, o2, hp2, d1⟩ := HB.out.at1 (u := .int .i64 y) rfl rfl hy
        subst hp hp2
        have c1' : wr.cell? ⟨p, o + k, none⟩ = some (.int .i64 x) := by rw [hwr]; exact c1
        have d1' : wr.cell? ⟨p2, o2 + k, none⟩ = some (.int .i64 y) := by rw [hwr]; exact d1
        have HX : Hid (a[k]? = some x ∧ b[k]? = some y) := ⟨hx, hy⟩
        have hki : (k : Int) < (la : Int) := by omega
        clear hwr c1 d1 hx hy
        by_cases hxy : x = y
        · have hbb : (x != y) = false := by simp [hxy]
          have HT : Hid (a.take (k + 1) = b.take (k + 1)) := by
            rw [Hid, take_next a k _ HX.out.1, take_next b k _ HX.out.2, HE.out, hxy]
          clear hxy
          go_wp2_with fail
          go_quiet (fail)
          generalize hwq : World.drewN wr nq = wq
          have HQ : Hid (wq = w.drewN (m + nq)) := by rw [Hid, ← hwq, HR.out]; simp
          clear hwq
          go_wp2_with fail
          go_roundw
          case rel => exact ⟨k + 1, m + nq, by go_num, by omega, HT.out, HQ.out⟩
          case measure => simp [intOf]; omega
        · have hbb : (x != y) = true := by simp [hxy]
          have HT : Hid (sameI a b = false) := by
            refine decide_eq_false fun e => ?_
            rw [e] at HX
            have := HX.out.1.symm.trans HX.out.2
            simp only [Option.some.injEq] at this
            exact hxy this
          clear hxy
          go_wp2_with fail
          go_quiet (fail)
          generalize hwq : World.drewN wr nq = wq
          have HQ : Hid (wq = w.drewN (m + nq)) := by rw [Hid, ← hwq, HR.out]; simp
          clear hwq
          go_wp2_with fail
          go_ret
          exact ⟨by rw [HT.out]; rfl, m + nq, HQ.out⟩
      · have hkl : k = la := by omega
        subst hkl
        have HT : Hid (sameI a b = true) := by
          refine decide_eq_true ?_
          have := HE.out
          rw [List.take_of_length_le (by omega), List.take_of_length_le (by omega)] at this
          exact this
        clear hwr
        go_wp2_with fail
        go_ret
        exact ⟨by rw [HT.out]; rfl, m, HR.out⟩
  · have hne : ((a.length : Int) == (b.length : Int)) = false := by simp; omega
    have hne' : ((a.length : Int) != (b.length : Int)) = true := by simp; omega
    have HT : Hid (sameI a b = false) := decide_eq_false fun e => hlen (by rw [e])
    go_enter Try.func23, Try.ntmps23
    go_wp2_with fail
    go_ret
    exact ⟨by rw [HT.out]; rfl, 0, rfl⟩

set_option maxRecDepth 100000 in
theorem dints_any (w : World) (v u : Value) (a b : List Int) (hv : RdG elI w v a) (hu : RdG elI w u b) :
    Calls Try.prog 34 #[v, u] w fun e w' => e = .returned (.bool (sameI a b)) ∧ ∃ m, w' = w.drewN m := by
  have HA : Hid (RdG elI w v a) := hv
  have HB : Hid (RdG elI w u b) := hu
  obtain ⟨ad, ac, rfl, al, am, -⟩ := hv
  obtain ⟨bd, bc, rfl, bl, bm, -⟩ := hu
  unfold maxLen at am bm
  by_cases hlen : a.length = b.length
  · have hne : ((a.length : Int) == (b.length : Int)) = true := by simp; omega
    have hne' : ((a.length : Int) != (b.length : Int)) = false := by simp; omega
    go_enter Try.func34, Try.ntmps34
    generalize hla : a.length = la at *
    generalize hlb : b.length = lb at *
    subst hlen
    go_wp2_with fail
    go_loopw [5] (fun i wr => ∃ (k m : Nat), i = .int .i64 (k : Int) ∧ k ≤ la ∧ a.take k = b.take k ∧ wr = w.drewN m) (fun i _ => la - (intOf i).toNat)
    case atStart => exact ⟨0, 0, rfl, Nat.zero_le _, rfl, rfl⟩
    case round =>
      obtain ⟨k, m, rfl, hk, hE, hwr⟩ := hrel
      have HE : Hid (a.take k = b.take k) := hE
      have HR : Hid (wr = w.drewN m) := hwr
      clear hE
      by_cases hlt : k < la
      · obtain ⟨x, hx⟩ : ∃ x, a[k]? = some x := ⟨_, List.getElem?_eq_getElem (by omega)⟩
        obtain ⟨y, hy⟩ : ∃ y, b[k]? = some y := ⟨_, List.getElem?_eq_getElem (by omega)⟩
        obtain ⟨p, o, hp, c1⟩ := HA.out.at1 (u := .int .i64 x) rfl rfl hx
        obtain ⟨p2, o2, hp2, d1⟩ := HB.out.at1 (u := .int .i64 y) rfl rfl hy
        subst hp hp2
        have c1' : wr.cell? ⟨p, o + k, none⟩ = some (.int .i64 x) := by rw [hwr]; exact c1
        have d1' : wr.cell? ⟨p2, o2 + k, none⟩ = some (.int .i64 y) := by rw [hwr]; exact d1
        have HX : Hid (a[k]? = some x ∧ b[k]? = some y) := ⟨hx, hy⟩
        have hki : (k : Int) < (la : Int) := by omega
        clear hwr c1 d1 hx hy
        by_cases hxy : x = y
        · have hbb : (x != y) = false := by simp [hxy]
          have HT : Hid (a.take (k + 1) = b.take (k + 1)) := by
            rw [Hid, take_next a k _ HX.out.1, take_next b k _ HX.out.2, HE.out, hxy]
          clear hxy
          go_wp2_with fail
          go_quiet (fail)
          generalize hwq : World.drewN wr nq = wq
          have HQ : Hid (wq = w.drewN (m + nq)) := by rw [Hid, ← hwq, HR.out]; simp
          clear hwq
          go_wp2_with fail
          go_roundw
          case rel => exact ⟨k + 1, m + nq, by go_num, by omega, HT.out, HQ.out⟩
          case measure => simp [intOf]; omega
        · have hbb : (x != y) = true := by simp [hxy]
          have HT : Hid (sameI a b = false) := by
            refine decide_eq_false fun e => ?_
            rw [e] at HX
            have := HX.out.1.symm.trans HX.out.2
            simp only [Option.some.injEq] at this
            exact hxy this
          clear hxy
          go_wp2_with fail
          go_quiet (fail)
          generalize hwq : World.drewN wr nq = wq
          have HQ : Hid (wq = w.drewN (m + nq)) := by rw [Hid, ← hwq, HR.out]; simp
          clear hwq
          go_wp2_with fail
          go_ret
          exact ⟨by rw [HT.out]; rfl, m + nq, HQ.out⟩
      · have hkl : k = la := by omega
        subst hkl
        have HT : Hid (sameI a b = true) := by
          refine decide_eq_true ?_
          have := HE.out
          rw [List.take_of_length_le (by omega), List.take_of_length_le (by omega)] at this
          exact this
        clear hwr
        go_wp2_with fail
        go_ret
        exact ⟨by rw [HT.out]; rfl, m, HR.out⟩
  · have hne : ((a.length : Int) == (b.length : Int)) = false := by simp; omega
    have hne' : ((a.length : Int) != (b.length : Int)) = true := by simp; omega
    have HT : Hid (sameI a b = false) := decide_eq_false fun e => hlen (by rw [e])
    go_enter Try.func34, Try.ntmps34
    go_wp2_with fail
    go_ret
    exact ⟨by rw [HT.out]; rfl, 0, rfl⟩

end Go.Proofs.Ytkkpimpmhnnbjaa
