/- The two arenas beside one another; whether they are alike. -/
import Derived.Test.YtopcbcdigllenaaRl
import Derived.Test.YtopcbcdigllenaaBq
namespace Go.Proofs.Ytopcbcdigllenaa
open Go.ChangeShapes Go.WideShapes Go.ChangeAt Go.RowKit

/-- The program's blocks and the document's objects are of one arena. -/
structure Linked (n : Nat) (bs : List Blk) (T : List Ob) : Prop where
  told : T.map Ob.told = objL 0 bs
  tight : tight false bs = true
  size : siz bs = n
  le : n ≤ 2048

theorem Linked.low {n : Nat} {bs : List Blk} {T : List Ob} (h : Linked n bs T) : Low T := fun o ho => by
  have hm : o.told ∈ objL 0 bs := by rw [← h.told]; exact List.mem_map.2 ⟨o, ho, rfl⟩
  have := objL_mem hm
  rw [h.size] at this
  have := h.le
  simp only [Ob.told] at *
  omega

theorem Linked.len {n : Nat} {bs : List Blk} {T : List Ob} (h : Linked n bs T) : T.length ≤ 2048 ∧ T.length = (objL 0 bs).length := by
  have e : T.length = (objL 0 bs).length := by rw [← h.told, List.length_map]
  have := (freesA_len 0 bs).2
  rw [h.size] at this
  have := h.le
  exact ⟨by omega, e⟩

theorem Linked.gaps {n : Nat} {bs : List Blk} {T : List Ob} (h : Linked n bs T) : gaps (n : Int) 1 T = freesA 0 bs := by
  have := gaps_frees (k := 0) h.told (n : Int) (by rw [h.size]; simp) h.tight rfl
  simpa using this

theorem Linked.free {n : Nat} {bs : List Blk} {T : List Ob} (h : Linked n bs T) : (∀ x ∈ freesA 0 bs, 0 ≤ x.2 ∧ x.2 ≤ 5000) ∧ (freesA 0 bs).length ≤ 3001 := by
  refine ⟨fun x hx => ?_, ?_⟩
  · obtain ⟨⟨j, -, h2⟩, h3, h4⟩ := freesA_mem hx
    rw [h.size] at h4
    have := h.le
    omega
  · have := (freesA_len 0 bs).1
    rw [h.size] at this
    have := h.le
    omega

theorem Linked.at_ {n : Nat} {bs : List Blk} {T : List Ob} (h : Linked n bs T) {i : Nat} {o : Ob} (ho : T[i]? = some o) : objAt bs o.at_ = some (o.cls, o.ws) ∧ (objsA 0 bs)[i]? = some o.at_ := by
  have hg : (objL 0 bs)[i]? = some o.told := by rw [← h.told, List.getElem?_map, ho]; rfl
  refine ⟨?_, by rw [objsA_eq, List.getElem?_map, hg]; rfl⟩
  have := objAt_mem.2 (List.mem_of_getElem? hg)
  simpa using this

set_option maxRecDepth 100000 in
set_option maxHeartbeats 4000000 in
theorem alike_any (w : World) (p g q n : Nat) (bs : List Blk) (T : List Ob) (hp : HP w p g bs) (hr : RR w q g (n : Int) T) (hl : Linked n bs T) :
    Calls Try.prog 18 #[.pointer (some ⟨p, 0, none⟩), .pointer (some ⟨q, 0, none⟩)] w fun e w' => e = .returned (.bool true) ∧ Fr no w w' := by
  have AA := all_any w p g bs hp
  have HX : Hid (HP w p g bs ∧ RR w q g (n : Int) T ∧ Linked n bs T) := ⟨hp, hr, hl⟩
  have HLN : Hid (T.length = (objL 0 bs).length) := hl.len.2
  have hlen := hl.len.1
  have hle := hl.le
  clear hp hr hl
  go_enter Try.func18, Try.ntmps18
  go_wp2_with fail
  refine AA.mono ?_
  rintro e w1 ⟨v1, rfl, o1, n1, f1⟩
  obtain ⟨a1, c1, hv1⟩ := o1.form
  rw [objsA_eq, List.length_map, ← HLN.out] at hv1
  subst hv1
  have H1 : Hid (OwnG elI w1 (.slice a1 T.length c1) (objsA 0 bs) ∧ Fr no w w1) := ⟨o1, f1⟩
  obtain ⟨ad, cp, hc0, hc1, -⟩ := (HX.out.2.1.keep f1).cells
  clear o1 n1 f1 AA
  have HK : Hid (∀ w2, Fr no w1 w2 → HP w2 p g bs ∧ RR w2 q g (n : Int) T ∧ w2.cell? ⟨q, 0, none⟩ = some (.int .i64 (n : Int)) ∧ w2.cell? ⟨q, 1, none⟩ = some (.slice ad T.length cp)) := fun w2 f2 =>
    ⟨HX.out.1.keep (H1.out.2.and f2), HX.out.2.1.keep (H1.out.2.and f2), f2.cell hc0 (fun x => x), f2.cell hc1 (fun x => x)⟩
  have SZ : ∀ w2, Fr no w1 w2 → Calls Try.prog 45 #[.pointer (some ⟨p, 0, none⟩)] w2 fun e w' => e = .returned (.int .i64 (n : Int)) ∧ w' = w2 := fun w2 f2 => by
    have := size_any w2 p g (flat bs) (HK.out w2 f2).1
    have e : (flat bs).length = n := HX.out.2.2.size
    rw [e] at this
    exact this
  have FP : ∀ w2, Fr no w1 w2 → Calls Try.prog 29 #[.pointer (some ⟨p, 0, none⟩)] w2 fun e w' => ∃ v, e = .returned v ∧ SlG elB w' v (freesA 0 bs) ∧ Fr no w2 w' := fun w2 f2 =>
    (free_any w2 p g bs (HK.out w2 f2).1).mono fun e w' ⟨v, a, b, c, d⟩ => ⟨v, a, b.sl, d⟩
  have FR : ∀ w2, Fr no w1 w2 → Calls Try.prog 46 #[.pointer (some ⟨q, 0, none⟩)] w2 fun e w' => ∃ v, e = .returned v ∧ SlG elB w' v (freesA 0 bs) ∧ Fr no w2 w' := fun w2 f2 =>
    (refFree_any w2 q g (n : Int) T (HK.out w2 f2).2.1 (by omega) HX.out.2.2.low (by omega)).mono fun e w' ⟨v, a, b, c, d⟩ => ⟨v, a, by rw [HX.out.2.2.gaps] at b; exact b.sl, d⟩
  have hsame : sameB (freesA 0 bs) (freesA 0 bs) = true := decide_eq_true rfl
  clear HLN
  generalize hn : T.length = nl at *
  have e1 : ((nl : Int) == (nl : Int)) = true := by simp
  have e2 : ((n : Int) == (n : Int)) = true := by simp
  go_upto_region 2 with fail
  go_cut [38] (fun u wc => u = .bool false ∧ Fr no w1 wc)
  case first =>
    go_region_with (first | (go_at_call 45; refine (SZ _ (by first | exact (Fr.refl no w1).drew | exact Fr.refl no w1)).mono ?_; rintro e w2 ⟨rfl, rfl⟩) | (go_at_call 29; first | (refine (FP _ (by first | exact (Fr.refl no w1).drew | exact Fr.refl no w1)).mono ?_; rintro e w3 ⟨v3, rfl, s3, f3⟩) | (refine (FP w4 ((Fr.refl no w1).drew.and f4)).mono ?_; rintro e w3 ⟨v3, rfl, s3, f3⟩)) | (go_at_call 46; first | (refine (FR _ (by first | exact (Fr.refl no w1).drew | exact Fr.refl no w1)).mono ?_; rintro e w4 ⟨v4, rfl, s4, f4⟩) | (refine (FR w3 ((Fr.refl no w1).drew.and f3)).mono ?_; rintro e w4 ⟨v4, rfl, s4, f4⟩)) | (go_at_call 31; first | (refine (blocks_any w4 v3 v4 _ _ (s3.keep f4) s4).mono ?_; rintro e w5 ⟨rfl, m5, rfl⟩) | (refine (blocks_any w3 v3 v4 _ _ s3 (s4.keep f3)).mono ?_; rintro e w5 ⟨rfl, m5, rfl⟩)))
    all_goals
      go_wp2_with fail
      go_meet
      first | exact ⟨rfl, (((Fr.refl no w1).drew.and f3).and f4).drewN m5⟩ | exact ⟨rfl, (((Fr.refl no w1).drew.and f4).and f3).drewN m5⟩
  case rest =>
    obtain ⟨rfl, hfc⟩ := hcut
    have HFC : Hid (Fr no w1 wc) := hfc
    clear hfc SZ FP FR hc0 hc1 hsame
    go_wp2_with fail
    go_loopw [6] (fun i wz => ∃ (k : Nat), i = .int .i64 (k : Int) ∧ k ≤ nl ∧ Fr no w1 wz) (fun i _ => nl - (intOf i).toNat)
    case atStart => exact ⟨0, rfl, Nat.zero_le _, HFC.out⟩
    case round =>
      obtain ⟨k, rfl, hk, hfz⟩ := hrel
      have HFZ : Hid (Fr no w1 wr) := hfz
      clear hfz
      by_cases hkn : k < nl
      · obtain ⟨o, ho⟩ : ∃ o, T[k]? = some o := ⟨_, List.getElem?_eq_getElem (by omega)⟩
        obtain ⟨hat, hix⟩ := HX.out.2.2.at_ ho
        obtain ⟨blk, hblk, -, -⟩ := HX.out.2.1.wd o (List.mem_of_getElem? ho)
        have hlow := HX.out.2.2.low o (List.mem_of_getElem? ho)
        have HB : Hid (∃ b1 o1 b3 o3, a1 = some ⟨b1, o1, none⟩ ∧ ad = some ⟨b3, o3, none⟩ ∧ ∀ w2, Fr no w1 w2 → w2.cell? ⟨b1, o1 + k, none⟩ = some (.int .i64 o.at_) ∧ w2.cell? ⟨q, 1, none⟩ = some (.slice ad nl cp) ∧ w2.cell? ⟨b3, o3 + k * 3, none⟩ = some (.int .i64 o.at_) ∧ w2.cell? ⟨b3, o3 + k * 3 + 2, none⟩ = some (.slice (some ⟨blk, 0, none⟩) o.ws.length o.ws.length) ∧ ∀ (j x : Nat), o.ws[j]? = some x → w2.cell? ⟨blk, j, none⟩ = some (.int .u64 (x : Int))) := by
          obtain ⟨b1, o1, ha1, -⟩ := (H1.out.1.rd elI_ok).at1 (u := .int .i64 o.at_) rfl rfl hix
          have hrd : ∀ w2, Fr no w1 w2 → RdG elO w2 (.slice ad nl cp) T := fun w2 f2 => by
            obtain ⟨ad', cp', -, h2, h3⟩ := (HK.out w2 f2).2.1.cells
            rw [hn] at h2 h3
            rw [(HK.out w2 f2).2.2.2] at h2
            simp only [Option.some.injEq, Value.slice.injEq, true_and] at h2
            obtain ⟨rfl, rfl⟩ := h2
            exact h3
          obtain ⟨b3, o3, ha3, -⟩ := (hrd w1 (Fr.refl _ _)).at3 ho
          refine ⟨b1, o1, b3, o3, ha1, ha3, fun w2 f2 => ?_⟩
          obtain ⟨b1', o1', ha1', h1⟩ := ((H1.out.1.keep f2).rd elI_ok).at1 (u := .int .i64 o.at_) rfl rfl hix
          obtain ⟨e3, e4⟩ := same_at ha1 ha1'
          rw [e3, e4] at h1
          obtain ⟨b3', o3', ha3', h2, -, h3⟩ := (hrd w2 f2).at3 ho
          obtain ⟨e5, e6⟩ := same_at ha3 ha3'
          rw [e5, e6] at h2 h3
          unfold Ob.sl at h3
          rw [hblk] at h3
          refine ⟨h1, (HK.out w2 f2).2.2.2, h2, h3, fun j x hx => ?_⟩
          obtain ⟨b, hb, -, hc⟩ := (HK.out w2 f2).2.1.wd o (List.mem_of_getElem? ho)
          rw [hblk] at hb
          simp only [Option.some.injEq] at hb
          subst hb
          have := cg_get elU_ok o.ws j x hx 0 (.int .u64 (x : Int)) rfl
          simp only [elU, Nat.mul_one, Nat.add_zero] at this
          simp [World.cell?, hc]
          exact this
        obtain ⟨b1, o1, b3, o3, ha1, ha3, HBC⟩ := HB.out
        have HBD : Hid (∀ w2, Fr no w1 w2 → w2.cell? ⟨b1, o1 + k, none⟩ = some (.int .i64 o.at_) ∧ w2.cell? ⟨q, 1, none⟩ = some (.slice ad nl cp) ∧ w2.cell? ⟨b3, o3 + k * 3, none⟩ = some (.int .i64 o.at_) ∧ w2.cell? ⟨b3, o3 + k * 3 + 2, none⟩ = some (.slice (some ⟨blk, 0, none⟩) o.ws.length o.ws.length) ∧ ∀ (j x : Nat), o.ws[j]? = some x → w2.cell? ⟨blk, j, none⟩ = some (.int .u64 (x : Int))) := HBC
        clear HBC HB
        subst ha1 ha3
        have WD := words_any wr p g bs (HK.out wr HFZ.out).1 o.at_ (by omega)
        have hcnt : cntA bs o.at_ = (o.ws.length : Int) := by unfold cntA; rw [hat]
        have hbeg : beg bs o.at_ = true := by rw [beg_obj, hat]; rfl
        rw [hcnt, hbeg] at WD
        simp only [errA, if_true] at WD
        have GT : Hid (∀ w2, Fr no w1 w2 → ∀ (j x : Nat), o.ws[j]? = some x → Calls Try.prog 17 #[.pointer (some ⟨p, 0, none⟩), .int .i64 o.at_, .int .i64 (j : Int)] w2 fun e w' => e = .returned (.tuple #[.int .u64 (x : Int), .int .i64 0]) ∧ ∃ m, w' = w2.drewN m) := fun w2 f2 j x hx => by
          have := get_any w2 p g bs (HK.out w2 f2).1 o.at_ (j : Int) (by omega)
          have hjl := (List.getElem?_eq_some_iff.1 hx).1
          have h1 : hasW bs o.at_ (j : Int) = true := by unfold hasW; rw [hat]; simp; omega
          have h2 : getW bs o.at_ (j : Int) = (x : Int) := by
            unfold getW
            rw [hat]
            simp only []
            rw [if_pos (by omega), Int.toNat_natCast, List.getD_eq_getElem?_getD, hx]
            rfl
          rw [h1, h2] at this
          exact this
        obtain ⟨c1', -, -, -, -⟩ := HBD.out wr HFZ.out
        have HWS : Hid (o.ws.length ≤ 4000) := by rw [Hid]; omega
        clear ho hat hix hblk hcnt hbeg
        generalize o.at_ = oa at *
        generalize hwl : o.ws.length = wl at *
        have hkni : (k : Int) < (nl : Int) := by omega
        have q1 : (oa == oa) = true := by simp
        have q2 : ((wl : Int) == (wl : Int)) = true := by simp
        go_wp2_with fail
        refine WD.mono ?_
        rintro e w2 ⟨rfl, m2, hw2⟩
        have HF2 : Hid (Fr no w1 w2) := by rw [hw2]; exact HFZ.out.drewN m2
        obtain ⟨d1, d2, d3, d4, -⟩ := HBD.out w2 HF2.out
        clear hw2 WD c1'
        go_wp2_with fail
        go_quiet (fail)
        generalize hwq : World.drewN w2 nq = wq
        have HQ : Hid (Fr no w1 wq) := by rw [Hid, ← hwq]; exact HF2.out.drewN nq
        clear hwq d1 d2 d3 d4
        go_wp2_with fail
        go_loopw [9] (fun i wz => ∃ (j : Nat), i = .int .i64 (j : Int) ∧ j ≤ wl ∧ Fr no w1 wz) (fun i _ => wl - (intOf i).toNat)
        case atStart => exact ⟨0, rfl, Nat.zero_le _, HQ.out⟩
        case round =>
          rename World => wy
          obtain ⟨j, rfl, hj, hfy⟩ := hrel
          have HFY : Hid (Fr no w1 wy) := hfy
          clear hfy
          have hws := HWS.out
          by_cases hjw : j < wl
          · obtain ⟨x, hx⟩ : ∃ x, o.ws[j]? = some x := ⟨_, List.getElem?_eq_getElem (by omega)⟩
            have G := GT.out wy HFY.out j x hx
            obtain ⟨d1, -⟩ := HBD.out wy HFY.out
            have HX2 : Hid (o.ws[j]? = some x) := hx
            have hjwi : (j : Int) < (wl : Int) := by omega
            have q3 : ((x : Int) == (x : Int)) = true := by simp
            clear hx
            go_wp2_with fail
            refine G.mono ?_
            rintro e w3 ⟨rfl, m3, hw3⟩
            have HF3 : Hid (Fr no w1 w3) := by rw [hw3]; exact HFY.out.drewN m3
            obtain ⟨-, d2, -, d4, d5⟩ := HBD.out w3 HF3.out
            have d6 := d5 j x HX2.out
            clear hw3 G d1 d5
            go_wp2_with fail
            go_roundw
            case rel => exact ⟨j + 1, by go_num, by omega, HF3.out⟩
            case measure => simp [intOf]; omega
          · have hjwi : ¬ ((j : Int) < (wl : Int)) := by omega
            go_wp2_with fail
            go_roundw
            case rel => exact ⟨k + 1, by go_num, by omega, HFY.out⟩
            case measure => simp [intOf]; omega
      · have hkni : ¬ ((k : Int) < (nl : Int)) := by omega
        go_wp2_with fail
        go_ret
        exact ⟨rfl, H1.out.2.and HFZ.out⟩
end Go.Proofs.Ytopcbcdigllenaa
