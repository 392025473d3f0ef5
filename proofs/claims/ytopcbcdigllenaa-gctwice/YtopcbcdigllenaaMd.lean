/- An arena of some objects, of which some are gone: both arenas, and the addresses. -/
import Derived.Test.YtopcbcdigllenaaRq
import Derived.Deep.RegionWith
namespace Go.Proofs.Ytopcbcdigllenaa
open Go.ChangeShapes Go.WideShapes Go.ChangeAt Go.RowKit

/-- Both arenas beside a row of addresses. -/
structure Md (w wr : World) (p g q : Nat) (bs : List Blk) (T : List Ob) (v : Value) (l : List Int) : Prop where
  pl : Pl w wr p g q 600 bs T
  own : OwnG elI wr v l
  new : NewV w v
  low : ∀ a ∈ l, 1 ≤ a ∧ a ≤ 600

theorem Md.keep {w wr w' : World} {p g q : Nat} {bs : List Blk} {T : List Ob} {v : Value} {l : List Int} (h : Md w wr p g q bs T v l) (f : Fr no wr w') : Md w w' p g q bs T v l := ⟨h.pl.keep f, h.own.keep f, h.new, h.low⟩

theorem Md.push {w wr w' : World} {p g q : Nat} {bs : List Blk} {T : List Ob} {v v' : Value} {l : List Int} {a : Int} (h : Md w wr p g q bs T v l) (o : OwnG elI w' v' (l ++ [a])) (s : Sp v wr v' w') (ha : 1 ≤ a ∧ a ≤ 600) : Md w w' p g q bs T v' (l ++ [a]) := by
  refine ⟨⟨h.pl.hf.row h.own (by decide) (by decide) (by decide) (by decide) h.new s.1, h.pl.lk, h.pl.cl⟩, o, (h.new.step h.pl.hf.fr s).1, fun b hb => ?_⟩
  rcases List.mem_append.1 hb with hb | hb
  · exact h.low b hb
  · simp only [List.mem_singleton] at hb
    subst hb
    exact ha

set_option maxHeartbeats 8000000 in
set_option maxRecDepth 100000 in
theorem made_any (w : World) (vs vg : Value) (sizes gone : List Nat) (hs : RdG elY w vs sizes) (hg : RdG elY w vg gone) (hsl : sizes.length ≤ 30) (hgl : gone.length ≤ 10) (hsb : ∀ x ∈ sizes, x < 256) (hgb : ∀ x ∈ gone, x < 256) :
    Calls Try.prog 22 #[vs, vg] w fun e w' => ∃ p g q v l bs T, e = .returned (.tuple #[.pointer (some ⟨p, 0, none⟩), .pointer (some ⟨q, 0, none⟩), v]) ∧ Md w w' p g q bs T v l ∧ l.length = sizes.length ∧ (gone = [] → l = objsA 0 bs) := by
  have NW : Calls Try.prog 9 #[.int .i64 600] w fun e w' => e = .returned (.pointer (some ⟨w.heap.size + 1, 0, none⟩)) ∧ HP w' (w.heap.size + 1) w.heap.size (newB 600) ∧ Fr no w w' := new_any w 600
  have HS : Hid (RdG elY w vs sizes ∧ (∀ x ∈ sizes, x < 256)) := ⟨hs, hsb⟩
  have HG : Hid (RdG elY w vg gone ∧ (∀ x ∈ gone, x < 256)) := ⟨hg, hgb⟩
  obtain ⟨os, csn, e1⟩ := hs.form
  obtain ⟨og, cgn, e2⟩ := hg.form
  subst e1 e2
  clear hs hg hsb hgb
  generalize hln : sizes.length = ln at *
  generalize hgn : gone.length = gn at *
  go_enter Try.func22, Try.ntmps22
  go_wp2_with fail
  refine NW.mono ?_
  rintro e w2 ⟨rfl, h2, f2⟩
  have RN : Calls Try.prog 10 #[.int .i64 600] w2 fun e w' => e = .returned (.pointer (some ⟨w2.heap.size, 0, none⟩)) ∧ w' = w2.alloc (.cells #[.int .i64 (600 : Nat), .slice none 0 0] 43) := refNew_eq w2 600
  have H3 : Hid (Md w (w2.alloc (.cells #[.int .i64 (600 : Nat), .slice none 0 0] 43)) (w.heap.size + 1) w.heap.size w2.heap.size (newB 600) [] (.slice none 0 0) []) := ⟨pl_new (by decide) (Fr.refl no w) h2 f2, OwnG.nil _ _, NewV.nil _, fun a ha => by simp at ha⟩
  clear h2 f2 NW
  go_wp2_with fail
  refine RN.mono ?_
  rintro e w3 ⟨rfl, hw3⟩
  rw [← hw3] at H3
  clear hw3 RN
  generalize w.heap.size + 1 = p at *
  generalize hgg : w.heap.size = g at *
  generalize w2.heap.size = q at *
  go_wp2_with fail
  go_loopw [9, 10] (fun lv i wr => ∃ (t : Nat) (bs : List Blk) (T : List Ob), i = .int .i64 (t : Int) ∧ t ≤ ln ∧ Row3 t bs ∧ Md w wr p g q bs T lv (objsA 0 bs) ∧ (objsA 0 bs).length = t) (fun _ i _ => ln - (intOf i).toNat)
  case atStart =>
    refine ⟨0, newB 600, [], rfl, Nat.zero_le _, row3_new, ?_, ?_⟩
    · have e : objsA 0 (newB 600) = [] := by decide +kernel
      rw [e]
      exact H3.out
    · decide +kernel
  case round =>
    clear H3
    obtain ⟨t, bs, T, rfl, htn, hrow, hmd, hlt⟩ := hrel
    by_cases hti : t < ln
    · obtain ⟨x, hx⟩ : ∃ x, sizes[t]? = some x := ⟨_, List.getElem?_eq_getElem (by omega)⟩
      have hxb := HS.out.2 x (List.mem_of_getElem? hx)
      obtain ⟨b0, o0, hov, hcx⟩ := (HS.out.1.keep hmd.pl.hf.fr).at1 (u := .int .u8 (x : Int)) rfl rfl hx
      subst hov
      obtain ⟨m, hm⟩ : ∃ m : Nat, m = x % 12 := ⟨_, rfl⟩
      have e12 : (x : Int) % 12 = (m : Int) := by omega
      have e12' : (x : Int).tmod 12 = (m : Int) := by rw [hm]; rfl
      have hm11 : m ≤ 11 := by omega
      obtain ⟨o, hr, hrow2, hobj, ho600⟩ := row3_next hrow (by omega) t m hm11
      obtain ⟨AL, AD⟩ := two_some hmd.pl t m o (by omega) hr
      have hti' : (t : Int) < (ln : Int) := by omega
      have HX : Hid (Md w wr p g q bs T u9 (objsA 0 bs) ∧ Row3 (t + 1) (allocB t m bs) ∧ objsA 0 (allocB t m bs) = objsA 0 bs ++ [(o : Int) + 1] ∧ sizes[t]? = some x) := ⟨hmd, hrow2, hobj, hx⟩
      have HAD : Hid _ := AD
      clear AD hmd hrow hrow2 hobj hx hr hm
      generalize allocB t m bs = bs' at *
      go_wp2_with fail
      refine AL.mono ?_
      rintro e w4 ⟨rfl, h4, k4⟩
      have AD := HAD.out w4 h4
      obtain ⟨b1, o1, hov1, hcx4⟩ := (HS.out.1.keep h4.fr).at1 (u := .int .u8 (x : Int)) rfl rfl HX.out.2.2.2
      obtain ⟨rfl, rfl⟩ := same_at rfl hov1
      have K4 : Hid (Kp wr w4) := k4
      clear h4 k4 AL HAD hcx hov1
      go_wp2_with fail
      refine AD.mono ?_
      rintro e w5 ⟨rfl, T5, h5, k5⟩
      have M5 : Md w w5 p g q bs' T5 u9 (objsA 0 bs) := ⟨h5, HX.out.1.own.kp (K4.out.trans k5) (by decide) (by decide) (by decide), HX.out.1.new, HX.out.1.low⟩
      have HM5 : Hid (Md w (w5.alloc (.cells (elI.f ((o : Int) + 1)).toArray elI.e)) p g q bs' T5 u9 (objsA 0 bs)) := M5.keep ((Fr.refl no w5).alloc _ _)
      clear M5 h5 k5 AD K4 hcx4
      go_wp2_with (at_builtin; refine wpList_apdG elI_ok _ rfl rfl _ _ rfl u9 (objsA 0 bs) rfl HM5.out.own _ rfl [((o : Int) + 1)] (srcG_one elI_ok w5 ((o : Int) + 1)) (by simp; omega) ?_; intro v' w6 o6 s6; have H6 : Hid (Md w w6 p g q bs' T5 v' (objsA 0 bs ++ [(o : Int) + 1])) := HM5.out.push o6 s6 (by omega); clear o6 s6)
      go_roundw
      case rel => exact ⟨t + 1, bs', T5, by go_num, by omega, HX.out.2.1, by rw [HX.out.2.2.1]; exact H6.out, by rw [HX.out.2.2.1]; simp; omega⟩
      case measure => simp [intOf]; omega
    · obtain rfl : t = ln := by omega
      have HM : Hid (Md w wr p g q bs T u9 (objsA 0 bs)) := hmd
      obtain ⟨ol, cl, hu9⟩ := hmd.own.form
      rw [hlt] at hu9
      subst hu9
      clear hmd hrow
      go_wp2_with fail
      have hl600 := HM.out.low
      generalize hL : objsA 0 bs = L at *
      go_loopw [15] (fun i wr => ∃ (t2 : Nat) (bs2 : List Blk) (T2 : List Ob), i = .int .i64 (t2 : Int) ∧ t2 ≤ gn ∧ Md w wr p g q bs2 T2 (.slice ol t cl) L ∧ (gone = [] → L = objsA 0 bs2)) (fun i _ => gn - (intOf i).toNat)
      case atStart => exact ⟨0, bs, T, rfl, Nat.zero_le _, HM.out, fun _ => hL.symm⟩
      case round =>
        clear HM hL
        obtain ⟨t2, bs2, T2, rfl, htn2, hmd, hgo⟩ := hrel
        have HM : Hid (Md w wr p g q bs2 T2 (.slice ol t cl) L ∧ (gone = [] → L = objsA 0 bs2)) := ⟨hmd, hgo⟩
        by_cases h2 : t2 < gn
        · have h2' : (t2 : Int) < (gn : Int) := by omega
          by_cases h0 : 0 < t
          · have h0' : (0 : Int) < (t : Int) := by omega
            obtain ⟨y, hy⟩ : ∃ y, gone[t2]? = some y := ⟨_, List.getElem?_eq_getElem (by omega)⟩
            have hyb := HG.out.2 y (List.mem_of_getElem? hy)
            have hne : gone ≠ [] := fun e => by rw [e] at hy; simp at hy
            obtain ⟨b0, o0, hov, hcy⟩ := (HG.out.1.keep hmd.pl.hf.fr).at1 (u := .int .u8 (y : Int)) rfl rfl hy
            subst hov
            obtain ⟨kk, hkk⟩ : ∃ kk : Nat, kk = y % t := ⟨_, rfl⟩
            have ek : (y : Int) % (t : Int) = (kk : Int) := by rw [hkk]; rfl
            have ek' : (y : Int).tmod (t : Int) = (kk : Int) := by rw [hkk]; rfl
            have hkt : kk < t := by rw [hkk]; exact Nat.mod_lt _ h0
            have hkt' : (kk : Int) < (t : Int) := by omega
            have ht0 : ¬ ((t : Int) = 0) := by omega
            obtain ⟨a, ha⟩ : ∃ a, L[kk]? = some a := ⟨_, List.getElem?_eq_getElem (by omega)⟩
            have hal := hl600 a (List.mem_of_getElem? ha)
            obtain ⟨b1, o1, hol, hca⟩ := (hmd.own.rd elI_ok).at1 (u := .int .i64 a) rfl rfl ha
            subst hol
            obtain ⟨er, T3, RP, RD⟩ := two_rel hmd.pl a (by omega)
            have CP : Hid (∀ w1, Fr no wr w1 → Calls Try.prog 13 #[.pointer (some ⟨p, 0, none⟩), .int .i64 a] w1 fun e w3 => e = .returned (.int .i64 er) ∧ Hf w w3 p g q 600 (freeB bs2 a) T2 ∧ OwnG elI w3 (.slice (some ⟨b1, o1, none⟩) t cl) L ∧ w3.cell? ⟨b1, o1 + kk, none⟩ = some (.int .i64 a)) := fun w1 f1 => by
              refine (RP w1 (hmd.pl.hf.keep f1)).mono ?_
              rintro e w3 ⟨rfl, x1, x2⟩
              have o3 : OwnG elI w3 (.slice (some ⟨b1, o1, none⟩) t cl) L := (hmd.own.keep f1).kp x2 (by decide) (by decide) (by decide)
              obtain ⟨b3, o3', hol3, hc3⟩ := (o3.rd elI_ok).at1 (u := .int .i64 a) rfl rfl ha
              obtain ⟨rfl, rfl⟩ := same_at rfl hol3
              exact ⟨rfl, x1, o3, hc3⟩
            have CD : Hid (∀ w1, Hf w w1 p g q 600 (freeB bs2 a) T2 ∧ OwnG elI w1 (.slice (some ⟨b1, o1, none⟩) t cl) L → Calls Try.prog 14 #[.pointer (some ⟨q, 0, none⟩), .int .i64 a] w1 fun e w3 => e = .returned (.int .i64 er) ∧ Md w w3 p g q (freeB bs2 a) T3 (.slice (some ⟨b1, o1, none⟩) t cl) L) := fun w1 h1 => by
              refine (RD w1 h1.1).mono ?_
              rintro e w3 ⟨rfl, x1, x2⟩
              exact ⟨rfl, x1, h1.2.kp x2 (by decide) (by decide) (by decide), hmd.new, hmd.low⟩
            clear RP RD hmd hgo hy ha hkk
            go_wp2_with fail
            refine Code.wp_mono (Q := Exit.then _ (fun _ _ _ => False)) (fun e a w h => by cases e <;> first | exact h | exact False.elim h) ?_
            go_region_with (first | (go_at_call 13; refine (CP.out _ (by first | exact (Fr.refl no wr).drew | exact Fr.refl no wr)).mono ?_; rintro e w3 ⟨rfl, h3, o3, c3⟩; have H3 : Hid (Hf w w3 p g q 600 (freeB bs2 a) T2 ∧ OwnG elI w3 (.slice (some ⟨b1, o1, none⟩) t cl) L) := ⟨h3, o3⟩; clear h3 o3) | (go_at_call 14; refine (CD.out w3 H3.out).mono ?_; rintro e w4 ⟨rfl, h4⟩; have H4 : Hid (Md w w4 p g q (freeB bs2 a) T3 (.slice (some ⟨b1, o1, none⟩) t cl) L) := h4; clear h4))
            all_goals
              go_wp2_with fail
              go_roundw
              case rel => exact ⟨t2 + 1, _, _, by go_num, by omega, H4.out, fun e => absurd e hne⟩
              case measure => simp [intOf]; omega
          · have h0' : ¬ ((0 : Int) < (t : Int)) := by omega
            clear hmd hgo
            go_wp2_with fail
            go_ret3
            first | exact ⟨p, g, q, _, L, bs2, T2, rfl, HM.out.1, hlt, HM.out.2⟩ | exact ⟨p, g, q, _, rfl, L, bs2, ⟨T2, HM.out.1⟩, hlt, HM.out.2⟩
        · have h2' : ¬ ((t2 : Int) < (gn : Int)) := by omega
          clear hmd hgo
          go_wp2_with fail
          go_ret3
          first | exact ⟨p, g, q, _, L, bs2, T2, rfl, HM.out.1, hlt, HM.out.2⟩ | exact ⟨p, g, q, _, rfl, L, bs2, ⟨T2, HM.out.1⟩, hlt, HM.out.2⟩
end Go.Proofs.Ytopcbcdigllenaa
