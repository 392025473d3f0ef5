/- Whether classes fit together: constants, the method to begin with. -/
import Derived.Test.YtalgjpmaafooeaaGreatDoorKak
import Derived.Test.YtalgjpmaafooeaaGreatDoorKai
import Derived.Test.YtalgjpmaafooeaaGreatDoorKaj
namespace Go.Proofs.YtalgjpmaafooeaaGreatDoor
open Go.ChangeShapes Go.WideShapes Go.ChangeAt Go.RowKit
open H (ky Owns MapOf ix up nameAt anc Fine obj fault)
set_option maxRecDepth 100000 in
theorem checkPool_any (w : World) (p : Nat) (Cs : List Cl) (A : List Nat) (h : Prg w p Cs A) (i : Nat) (x : Lk) (hx : ClAt w x.k (clsAt Cs i)) (hfit : FitC (clsAt Cs i)) :
 Calls Tryz.prog 51 #[.pointer (some ⟨p, 0, none⟩), .agg #[.string x.k.name, .string x.k.super, .slice x.k.p.a x.k.p.n x.k.p.c, .slice x.k.f.a x.k.f.n x.k.f.c, .slice x.k.m.a x.k.m.n x.k.m.c, .slice x.s.a x.s.n x.s.c, .int .i64 x.wd, .map (some x.fm), .map (some x.mm)]] w fun e w' => e = .returned (.int .i64 (poolE Cs (layAll Cs A) i : Int)) ∧ Fr no w w' := by
 have G0 : Fr no w (w.alloc (.cells #[.string x.k.name, .string x.k.super, .slice x.k.p.a x.k.p.n x.k.p.c, .slice x.k.f.a x.k.f.n x.k.f.c, .slice x.k.m.a x.k.m.n x.k.m.c, .slice x.s.a x.s.n x.s.c, .int .i64 x.wd, .map (some x.fm), .map (some x.mm)] 128)) := (Fr.refl no w).alloc _ _
 have E0 : (w.alloc (.cells #[.string x.k.name, .string x.k.super, .slice x.k.p.a x.k.p.n x.k.p.c, .slice x.k.f.a x.k.f.n x.k.f.c, .slice x.k.m.a x.k.m.n x.k.m.c, .slice x.s.a x.s.n x.s.c, .int .i64 x.wd, .map (some x.fm), .map (some x.mm)] 128)).heap[w.heap.size]? = some (.cells #[.string x.k.name, .string x.k.super, .slice x.k.p.a x.k.p.n x.k.p.c, .slice x.k.f.a x.k.f.n x.k.f.c, .slice x.k.m.a x.k.m.n x.k.m.c, .slice x.s.a x.s.n x.s.c, .int .i64 x.wd, .map (some x.fm), .map (some x.mm)] 128 (0, 0)) := heap_alloc_new w _
 have d2 := cell_at (o := 2) E0
 simp only [List.getElem?_toArray, List.getElem?_cons_zero, List.getElem?_cons_succ] at d2
 have FC := firstCsC_any _ _ (clsAt Cs i).pool (hx.p.kept G0) p (fun k => match (clsAt Cs i).pool[k]? with | some y => constE (namesOf Cs) (layAll Cs A) y | none => 0) (fun w' k y hf hy => by
  have := checkConstP_any w' p y (hfit.pool y (List.mem_of_getElem? hy)).1 (hfit.pool y (List.mem_of_getElem? hy)).2 Cs A ((h.keep G0).keep hf)
  simp only [hy]
  exact this)
 rw [firstN_list (constE (namesOf Cs) (layAll Cs A)) _ (clsAt Cs i).pool 0 (fun i y hy => by rw [Nat.zero_add]; simp only [hy])] at FC
 have HE : Hid (poolE Cs (layAll Cs A) i = firstN (constE (namesOf Cs) (layAll Cs A)) (clsAt Cs i).pool) := rfl
 have HG : Hid (_) := G0
 clear h hx hfit G0 E0
 generalize hW : w.alloc (.cells #[.string x.k.name, .string x.k.super, .slice x.k.p.a x.k.p.n x.k.p.c, .slice x.k.f.a x.k.f.n x.k.f.c, .slice x.k.m.a x.k.m.n x.k.m.c, .slice x.s.a x.s.n x.s.c, .int .i64 x.wd, .map (some x.fm), .map (some x.mm)] 128) = W at *
 generalize firstN (constE (namesOf Cs) (layAll Cs A)) (clsAt Cs i).pool = r at *
 go_enter Tryz.func51, Tryz.ntmps51
 go_wp2_with fail
 refine FC.mono ?_
 rintro e w1 ⟨rfl, f1⟩
 go_wp2_with fail
 go_ret
 rw [HE.out]
 exact ⟨rfl, HG.out.new f1 (fun _ _ f => f)⟩
set_option maxRecDepth 100000 in
set_option maxHeartbeats 2000000 in
theorem checkMain_any (w : World) (p : Nat) (Cs : List Cl) (A : List Nat) (h : Prg w p Cs A) (hsm : ∀ c ∈ Cs, SmallC c) :
 Calls Tryz.prog 52 #[.pointer (some ⟨p, 0, none⟩)] w fun e w' => e = .returned (.int .i64 (mainE Cs (layAll Cs A) : Int)) ∧ Fr no w w' := by
 have M := method_any w p Cs A h hsm sMain smain (by decide) (by decide)
 have HQ : Hid (∀ q, findOf (namesOf Cs) (layAll Cs A) sMain smain = some q → q.1 < Cs.length ∧ ∃ m, methAt Cs q = some m ∧ m.name = smain) := fun q hq => findOf_ok h.fine hq
 have HE : Hid (mainE Cs (layAll Cs A) = match findOf (namesOf Cs) (layAll Cs A) sMain smain with
 | none => 74
 | some q => match methAt Cs q with
  | none => 74
  | some m => if m.params = [] ∧ m.ret.k = 0 then 0 else 74) := rfl
 clear h
 generalize hr : findOf (namesOf Cs) (layAll Cs A) sMain smain = r at *
 unfold sMain smain at M
 cases r with
 | none =>
  have HN : Hid (mainE Cs (layAll Cs A) = 74) := HE.out
  go_enter Tryz.func52, Tryz.ntmps52
  go_wp2_with fail
  refine M.mono ?_
  rintro e w1 ⟨⟨hm, -⟩, f1⟩
  obtain rfl := hm rfl
  unfold msV zMs
  go_wp2_with fail
  go_ret
  rw [HN.out]
  exact ⟨rfl, f1.alloc _ _⟩
 | some q =>
  obtain ⟨-, m, hm, -⟩ := HQ.out q rfl
  have HN0 : Hid (mainE Cs (layAll Cs A) = if m.params = [] ∧ m.ret.k = 0 then 0 else 74) := by
   show _ = _
   rw [HE.out]
   simp only [hm]
  go_enter Tryz.func52, Tryz.ntmps52
  go_wp2_with fail
  refine M.mono ?_
  rintro e w1 ⟨⟨-, hmm⟩, f1⟩
  obtain ⟨s', m', hm', rfl, mo⟩ := hmm q rfl
  rw [hm] at hm'
  simp only [Option.some.injEq] at hm'
  subst hm'
  unfold msV
  obtain ⟨pq, pc, hpf⟩ := mo.p.form
  simp only [Value.slice.injEq] at hpf
  have hpn : s'.p.n = m.params.length := hpf.2.1
  have hrk : s'.ret.k = m.ret.k := by rw [mo.ret]
  have E1 : (w1.alloc (.cells #[.string s'.name, .slice s'.p.a s'.p.n s'.p.c, .int .i64 s'.ret.k, .string s'.ret.c, .int .i64 s'.lo, .int .i64 s'.st, .slice s'.c.a s'.c.n s'.c.c, .slice s'.h.a s'.h.n s'.h.c] 47)).heap[w1.heap.size]? = some (.cells #[.string s'.name, .slice s'.p.a s'.p.n s'.p.c, .int .i64 s'.ret.k, .string s'.ret.c, .int .i64 s'.lo, .int .i64 s'.st, .slice s'.c.a s'.c.n s'.c.c, .slice s'.h.a s'.h.n s'.h.c] 47 (0, 0)) := heap_alloc_new w1 _
  obtain ⟨e0, e1, e2, e3, e4, e5, e6, e7⟩ := box8 E1
  have HG : Hid (Fr no w (w1.alloc (.cells #[.string s'.name, .slice s'.p.a s'.p.n s'.p.c, .int .i64 s'.ret.k, .string s'.ret.c, .int .i64 s'.lo, .int .i64 s'.st, .slice s'.c.a s'.c.n s'.c.c, .slice s'.h.a s'.h.n s'.h.c] 47))) := f1.alloc _ _
  clear hmm M mo E1 f1 hpf
  generalize hW2 : w1.alloc (.cells #[.string s'.name, .slice s'.p.a s'.p.n s'.p.c, .int .i64 s'.ret.k, .string s'.ret.c, .int .i64 s'.lo, .int .i64 s'.st, .slice s'.c.a s'.c.n s'.c.c, .slice s'.h.a s'.h.n s'.h.c] 47) = W2 at *
  generalize s'.p.n = sn at *
  generalize s'.ret.k = sk at *
  by_cases hp0 : sn = 0
  · have hpl : m.params = [] := List.eq_nil_of_length_eq_zero (by omega)
    by_cases hr0 : sk = 0
    · have HN : Hid (mainE Cs (layAll Cs A) = 0) := by show _ = _; rw [HN0.out, if_pos ⟨hpl, by omega⟩]
      subst hp0 hr0
      clear hpn hrk
      go_wp2_with fail
      go_ret
      rw [HN.out]
      exact ⟨rfl, HG.out⟩
    · have HN : Hid (mainE Cs (layAll Cs A) = 74) := by show _ = _; rw [HN0.out, if_neg (fun e => hr0 (by omega))]
      have hr0' : (sk == 0) = false := by simpa using hr0
      subst hp0
      clear hpn hrk
      go_wp2_with fail
      go_ret
      rw [HN.out]
      exact ⟨rfl, HG.out⟩
  · have HN : Hid (mainE Cs (layAll Cs A) = 74) := by
     show _ = _
     rw [HN0.out, if_neg (fun e => hp0 (by rw [hpn, e.1]; rfl))]
    have hp0' : (0 : Int) < (sn : Int) := by omega
    clear hpn hrk
    go_wp2_with fail
    go_ret
    rw [HN.out]
    exact ⟨rfl, HG.out⟩
end Go.Proofs.YtalgjpmaafooeaaGreatDoor
/- Names and supers; what a class that is right has. -/
namespace Go.Proofs.YtalgjpmaafooeaaGreatDoor
open Go.ChangeShapes Go.WideShapes Go.ChangeAt Go.RowKit
open H (ix addN newH obj fault)
theorem eachE_len {α : Type} {most : Nat} {ask : α → List α → Nat} {l : List α} (h : eachE most ask l = 0) : l.length ≤ most ∧ firstE ask [] l = 0 := by
 unfold eachE at h
 by_cases h1 : most < l.length
 · rw [if_pos h1] at h
   simp at h
 · rw [if_neg h1] at h
   exact ⟨by omega, h⟩
theorem firstE_mem {α : Type} {ask : α → List α → Nat} : ∀ {l a : List α}, firstE ask a l = 0 → ∀ x ∈ l, ∃ ah, ask x ah = 0
 | [], _, _, x, hx => by simp at hx
 | y :: r, a, h, x, hx => by
  unfold firstE at h
  by_cases h1 : ask y a = 0
  · rw [if_neg (fun e => e h1)] at h
    rcases List.mem_cons.1 hx with rfl | hx
    · exact ⟨a, h1⟩
    · exact firstE_mem h x hx
  · rw [if_pos h1] at h
    exact absurd h h1
theorem small_m {pool : List Cs} {m : Mt} {a : List Mt} (h : ckMt pool m a = 0) : SmallM m := by
 unfold ckMt at h
 by_cases h1 : ckFace m a = 0
 · rw [if_neg (fun e => e h1)] at h
   have hp := face_params m a h1
   unfold ckBody at h
   split at h
   · split at h
     · simp at h
     · split at h
       · rename_i hne
         exact absurd h hne
       · rename_i hne
         have hc := (eachE_len (Decidable.byContradiction fun e => hne e)).1
         split at h
         · exact ⟨by omega, by omega, by have := (eachE_len h).1; omega⟩
         · simp at h
   · simp at h
 · rw [if_pos h1] at h
   exact absurd h h1
theorem small_c {c : Cl} (h : chk c = 0) : SmallC c := by
 unfold chk at h
 split at h
 · split at h
   · rename_i hne
     exact absurd h hne
   · rename_i hp
     split at h
     · rename_i hne
       exact absurd h hne
     · rename_i hf
       have h1 := eachE_len (Decidable.byContradiction fun e => hp e)
       have h2 := eachE_len (Decidable.byContradiction fun e => hf e)
       have h3 := eachE_len h
       refine ⟨by omega, by omega, by omega, fun m hm => ?_⟩
       obtain ⟨ah, ha⟩ := firstE_mem h3.2 m hm
       exact small_m ha
 · simp at h
theorem firstN_zero {α : Type} {f : α → Nat} : ∀ {l : List α}, firstN f l = 0 → ∀ x ∈ l, f x = 0
 | [], _, x, hx => by simp at hx
 | y :: r, h, x, hx => by
  unfold firstN at h
  by_cases h1 : f y = 0
  · rw [if_neg (fun e => e h1)] at h
    rcases List.mem_cons.1 hx with rfl | hx
    · exact h1
    · exact firstN_zero h x hx
  · rw [if_pos h1] at h
    exact absurd h h1
theorem addN_ok : ∀ (l N : List ByteArray), (addN N l).1 = 0 → (addN N l).2 = N ++ l ∧ (N.Nodup → (N ++ l).Nodup)
 | [], N, _ => by simp [addN]
 | x :: l, N, h => by
  unfold addN at h ⊢
  split at h
  · simp at h
  · rename_i h1
    rw [if_neg h1]
    split at h
    · simp at h
    · rename_i h2
      rw [if_neg h2]
      obtain ⟨e1, e2⟩ := addN_ok l (N ++ [x]) h
      refine ⟨by rw [e1]; simp, fun hn => ?_⟩
      have hx : x ∉ N := by
       have : ix x N = none := by
        cases hi : ix x N with
        | none => rfl
        | some i => rw [hi] at h2; simp at h2
       exact H.ix_none.1 this
      have := e2 (by
       rw [List.nodup_append]
       refine ⟨hn, by simp, fun a ha b hb => ?_⟩
       simp only [List.mem_singleton] at hb
       subst hb
       exact fun e => hx (e ▸ ha))
      simpa using this
theorem newC_ok {cs : List Cl} (h : (newC cs).1 = 0) : cs.length ≤ 16 ∧ (newC cs).2.1 = namesOf (allC cs) ∧ (namesOf (allC cs)).Nodup := by
 unfold newC newH at h ⊢
 simp only [List.length_map] at h ⊢
 rw [if_neg (by simp)] at h ⊢
 split at h
 · simp at h
 · rename_i h16
   rw [if_neg h16]
   split at h
   · rename_i hne
     exact absurd h hne
   · rename_i hn
     rw [if_neg hn]
     have hn' : (addN [obj, fault] (cs.map Cl.name)).1 = 0 := Decidable.byContradiction fun e => hn e
     obtain ⟨e1, e2⟩ := addN_ok _ _ hn'
     split at h
     · rename_i hne
       exact absurd h hne
     · rename_i hs
       rw [if_neg hs]
       split at h
       · simp at h
       · rename_i hrg
         rw [if_neg hrg]
         refine ⟨by omega, by rw [e1]; rfl, ?_⟩
         have := e2 (by decide)
         exact this
set_option maxRecDepth 100000 in
set_option maxHeartbeats 2000000 in
theorem namesSupers_any (w : World) (v : Value) (cs : List Cl) (hv : CsAt w v cs) (hb : cs.length ≤ 1000) :
 Calls Tryz.prog 22 #[v] w fun e w' => ∃ v1 v2, e = .returned (.tuple #[v1, v2]) ∧ H.OwnG H.elS w' v1 (cs.map Cl.name) ∧ H.OwnG H.elS w' v2 (cs.map Cl.super) ∧ Fr no w w' := by
 obtain ⟨ks, hk1, hk2, hk3⟩ := hv.ex
 obtain ⟨q, cap, rfl⟩ := hk1.form
 rw [hk2] at hk1 ⊢
 have HK : Hid (SlG elKs w (.slice q cs.length cap) ks ∧ ks.length = cs.length ∧ ∀ (i : Nat) (s : Ks) (c : Cl), ks[i]? = some s → cs[i]? = some c → ClAt w s c) := ⟨hk1, hk2, hk3⟩
 clear hv hk1 hk2 hk3
 generalize hn : cs.length = n at *
 go_enter Tryz.func22, Tryz.ntmps22
 go_wp2_with fail
 go_loopw [8, 2, 3] (fun i a b wr => ∃ (k : Nat) (o1 o2 : Option Addr) (c1 c2 : Nat), i = .int .i64 (k : Int) ∧ k ≤ n ∧ Fr no w wr ∧ a = .slice o1 k c1 ∧ b = .slice o2 k c2 ∧ H.OwnG H.elS wr a ((cs.take k).map Cl.name) ∧ H.OwnG H.elS wr b ((cs.take k).map Cl.super) ∧ NewV w a ∧ NewV w b ∧ (∀ g, a.ownBlock = some g → b.ownBlock ≠ some g)) (fun i _ _ _ => n - (intOf i).toNat)
 case atStart => exact ⟨0, none, none, 0, 0, rfl, Nat.zero_le _, Fr.refl _ _, rfl, rfl, by simpa using H.OwnG.nil H.elS w, by simpa using H.OwnG.nil H.elS w, NewV.nil _, NewV.nil _, fun g hg => by simp [Value.ownBlock] at hg⟩
 case round =>
  obtain ⟨k, o1, o2, c1, c2, rfl, hk, hw, rfl, rfl, oa, ob, na, nb, hab⟩ := hrel
  by_cases hlt : k < n
  · have hki : (k : Int) < (n : Int) := by omega
    obtain ⟨hk1, hk2, hk3⟩ := HK.out
    obtain ⟨sx, hsx⟩ : ∃ sx, ks[k]? = some sx := ⟨_, List.getElem?_eq_getElem (by omega)⟩
    obtain ⟨c, hcx⟩ : ∃ c, cs[k]? = some c := ⟨_, List.getElem?_eq_getElem (by omega)⟩
    obtain ⟨ad, cap', e, -, hmx, hit⟩ := hk1.kept hw
    simp only [Value.slice.injEq] at e
    obtain ⟨rfl, -, rfl⟩ := e
    obtain ⟨b, off, rfl, hc⟩ := hit k sx hsx
    have d0 := hc 0 _ rfl
    have d1 := hc 1 _ rfl
    have d2 := hc 2 _ rfl
    have d3 := hc 3 _ rfl
    have d4 := hc 4 _ rfl
    simp only [elKs, Nat.add_zero] at d0 d1 d2 d3 d4
    have e1 : sx.name = c.name := (hk3 k sx c hsx hcx).name
    have e2 : sx.super = c.super := (hk3 k sx c hsx hcx).super
    have G1 : Fr no wr (wr.alloc (.cells #[.string sx.name, .string sx.super, .slice sx.p.a sx.p.n sx.p.c, .slice sx.f.a sx.f.n sx.f.c, .slice sx.m.a sx.m.n sx.m.c] 51)) := (Fr.refl no wr).alloc _ _
    have E1 : (wr.alloc (.cells #[.string sx.name, .string sx.super, .slice sx.p.a sx.p.n sx.p.c, .slice sx.f.a sx.f.n sx.f.c, .slice sx.m.a sx.m.n sx.m.c] 51)).heap[wr.heap.size]? = some (.cells #[.string sx.name, .string sx.super, .slice sx.p.a sx.p.n sx.p.c, .slice sx.f.a sx.f.n sx.f.c, .slice sx.m.a sx.m.n sx.m.c] 51 (0, 0)) := heap_alloc_new wr _
    obtain ⟨y0, y1, -, -, -⟩ := box5 E1
    have G2 : Fr no wr ((wr.alloc (.cells #[.string sx.name, .string sx.super, .slice sx.p.a sx.p.n sx.p.c, .slice sx.f.a sx.f.n sx.f.c, .slice sx.m.a sx.m.n sx.m.c] 51)).alloc (.cells #[.string sx.name] 9)) := G1.alloc _ _
    have E2 := ((Fr.refl no (wr.alloc (.cells #[.string sx.name, .string sx.super, .slice sx.p.a sx.p.n sx.p.c, .slice sx.f.a sx.f.n sx.f.c, .slice sx.m.a sx.m.n sx.m.c] 51))).alloc #[.string sx.name] 9).heap E1 (fun f => f)
    have HOA : Hid (H.OwnG H.elS ((wr.alloc (.cells #[.string sx.name, .string sx.super, .slice sx.p.a sx.p.n sx.p.c, .slice sx.f.a sx.f.n sx.f.c, .slice sx.m.a sx.m.n sx.m.c] 51)).alloc (.cells #[.string sx.name] 9)) (.slice o1 k c1) ((cs.take k).map Cl.name)) := oa.keep G2
    have src1 := H.srcG_one H.elS_ok (wr.alloc (.cells #[.string sx.name, .string sx.super, .slice sx.p.a sx.p.n sx.p.c, .slice sx.f.a sx.f.n sx.f.c, .slice sx.m.a sx.m.n sx.m.c] 51)) sx.name
    have SRC1 : Hid (_) := src1
    have hlk : ((cs.take k).map Cl.name).length = k := by rw [List.length_map, List.length_take]; omega
    have hlk2 : ((cs.take k).map Cl.super).length = k := by rw [List.length_map, List.length_take]; omega
    have STEP1 : Hid (∀ v' w3, H.OwnG H.elS w3 v' ((cs.take k).map Cl.name ++ [sx.name]) → H.Sp (.slice o1 k c1) ((wr.alloc (.cells #[.string sx.name, .string sx.super, .slice sx.p.a sx.p.n sx.p.c, .slice sx.f.a sx.f.n sx.f.c, .slice sx.m.a sx.m.n sx.m.c] 51)).alloc (.cells #[.string sx.name] 9)) v' w3 → w3.cell? ⟨wr.heap.size, 1, none⟩ = some (.string sx.super) ∧ H.OwnG H.elS (w3.alloc (.cells #[.string sx.super] 9)) (.slice o2 k c2) ((cs.take k).map Cl.super) ∧ NewV w v' ∧ Fr no w w3 ∧ (∀ g, v'.ownBlock = some g → (Value.slice o2 k c2).ownBlock ≠ some g)) := by
     intro v' w3 o3 s3
     have nq : (Value.slice o1 k c1).ownBlock ≠ some wr.heap.size := fun e => by
      obtain ⟨cu, hcu⟩ := HOA.out.tag e
      rw [E2] at hcu
      simp [H.elS] at hcu
     have f3 : Fr no w w3 := (hw.new G2 (fun _ _ f => f)).new s3.1 (fun i hi e => by have := na i e; omega)
     refine ⟨(box5 (s3.1.heap E2 nq)).2.1, ((ob.keep G2).kept s3.1 (fun g hg e => hab g e hg)).keep ((Fr.refl no w3).alloc _ _), fun g hg => ?_, f3, fun g hg e => ?_⟩
     · by_cases hl : g < ((wr.alloc (.cells #[.string sx.name, .string sx.super, .slice sx.p.a sx.p.n sx.p.c, .slice sx.f.a sx.f.n sx.f.c, .slice sx.m.a sx.m.n sx.m.c] 51)).alloc (.cells #[.string sx.name] 9)).heap.size
       · exact na g (s3.2 g hl hg)
       · have := (hw.new G2 (fun _ _ f => f)).size
         omega
     · have hgl : g < ((wr.alloc (.cells #[.string sx.name, .string sx.super, .slice sx.p.a sx.p.n sx.p.c, .slice sx.f.a sx.f.n sx.f.c, .slice sx.m.a sx.m.n sx.m.c] 51)).alloc (.cells #[.string sx.name] 9)).heap.size := (ob.keep G2).lt e
       exact hab g (s3.2 g hgl hg) e
    have STEP2 : Hid (∀ v' w3 v4 w4, H.OwnG H.elS w3 v' ((cs.take k).map Cl.name ++ [sx.name]) → Fr no w w3 → NewV w v' → (∀ g, v'.ownBlock = some g → (Value.slice o2 k c2).ownBlock ≠ some g) → H.OwnG H.elS (w3.alloc (.cells #[.string sx.super] 9)) (.slice o2 k c2) ((cs.take k).map Cl.super) → H.OwnG H.elS w4 v4 ((cs.take k).map Cl.super ++ [sx.super]) → H.Sp (.slice o2 k c2) (w3.alloc (.cells #[.string sx.super] 9)) v4 w4 → H.OwnG H.elS w4 v' ((cs.take k).map Cl.name ++ [sx.name]) ∧ Fr no w w4 ∧ NewV w v4 ∧ (∀ g, v'.ownBlock = some g → v4.ownBlock ≠ some g)) := by
     intro v' w3 v4 w4 o3 f3 nv' hd obb o4 s4
     have ga : Fr no w3 (w3.alloc (.cells #[.string sx.super] 9)) := (Fr.refl no w3).alloc _ _
     refine ⟨(o3.keep ga).kept s4.1 (fun g hg e => hd g hg e), (f3.new ga (fun _ _ f => f)).new s4.1 (fun i hi e => by have := nb i e; omega), fun g hg => ?_, fun g hg e => ?_⟩
     · by_cases hl : g < (w3.alloc (.cells #[.string sx.super] 9)).heap.size
       · exact nb g (s4.2 g hl hg)
       · have := (f3.new ga (fun _ _ f => f)).size
         omega
     · have hgl : g < (w3.alloc (.cells #[.string sx.super] 9)).heap.size := (o3.keep ga).lt hg
       exact hd g hg (s4.2 g hgl e)
    have HX : Hid (cs[k]? = some c ∧ sx.name = c.name ∧ sx.super = c.super) := ⟨hcx, e1, e2⟩
    clear hk1 hk2 hk3 hsx hit hc hcx e1 e2 G1 E1 G2 E2 oa ob na nb hab hw src1
    generalize hW1 : wr.alloc (.cells #[.string sx.name, .string sx.super, .slice sx.p.a sx.p.n sx.p.c, .slice sx.f.a sx.f.n sx.f.c, .slice sx.m.a sx.m.n sx.m.c] 51) = W1 at *
    go_wp2_with (first | (at_builtin; refine H.wpList_apdG H.elS_ok _ rfl rfl _ _ rfl (.slice o1 k c1) ((cs.take k).map Cl.name) rfl HOA.out _ rfl [sx.name] SRC1.out (by rw [hlk]; simp; omega) ?_; intro v' w3 o3 s3; obtain ⟨z1, ob3, nv', f3, hd3⟩ := STEP1.out v' w3 o3 s3; obtain ⟨oo3, cc3, rfl⟩ := o3.form; clear s3; have HO3 : Hid (_ ∧ _ ∧ _ ∧ _ ∧ _) := ⟨o3, ob3, nv', f3, hd3⟩; clear o3 ob3 nv' f3 hd3) | (at_builtin; refine H.wpList_apdG H.elS_ok _ rfl rfl _ _ rfl (.slice o2 k c2) ((cs.take k).map Cl.super) rfl HO3.out.2.1 _ rfl [sx.super] (H.srcG_one H.elS_ok w3 sx.super) (by rw [hlk2]; simp; omega) ?_; intro v4 w4 o4 s4; obtain ⟨oa4, f4, nv4, hd4⟩ := STEP2.out _ w3 v4 w4 HO3.out.1 HO3.out.2.2.2.1 HO3.out.2.2.1 HO3.out.2.2.2.2 HO3.out.2.1 o4 s4; obtain ⟨oo4, cc4, rfl⟩ := o4.form; clear s4; have HO4 : Hid (_ ∧ _ ∧ _ ∧ _ ∧ _) := ⟨o4, oa4, f4, nv4, hd4⟩; clear o4 oa4 f4 nv4 hd4) | go_in)
    go_roundw
    case rel =>
     obtain ⟨o4, oa4, f4, nv4, hd4⟩ := HO4.out
     obtain ⟨o3, ob3, nv', f3, hd3⟩ := HO3.out
     have t1 : (cs.take k).map Cl.name ++ [sx.name] = (cs.take (k + 1)).map Cl.name := by rw [take_next cs k c HX.out.1, HX.out.2.1]; simp
     have t2 : (cs.take k).map Cl.super ++ [sx.super] = (cs.take (k + 1)).map Cl.super := by rw [take_next cs k c HX.out.1, HX.out.2.2]; simp
     have l1 : ((cs.take k).map Cl.name ++ [sx.name]).length = k + 1 := by rw [List.length_append, hlk]; rfl
     have l2 : ((cs.take k).map Cl.super ++ [sx.super]).length = k + 1 := by rw [List.length_append, hlk2]; rfl
     rw [l1] at oa4 nv' hd4
     rw [l2] at o4 nv4 hd4
     rw [t1] at oa4
     rw [t2] at o4
     exact ⟨k + 1, oo3, oo4, cc3, cc4, by go_num, by omega, f4, rfl, rfl, oa4, o4, nv', nv4, hd4⟩
    case measure => simp [intOf]; omega
  · have hkn : k = n := by omega
    subst hkn
    rw [← hn, List.take_length] at oa ob
    rw [hn] at oa ob
    have HZ : Hid (_ ∧ _ ∧ _) := ⟨oa, ob, hw⟩
    clear oa ob na nb hab hw
    go_wp2_with fail
    go_ret2
    exact ⟨_, _, rfl, HZ.out⟩
end Go.Proofs.YtalgjpmaafooeaaGreatDoor
/- assemble: the program's call. -/
namespace Go.Proofs.YtalgjpmaafooeaaGreatDoor
open Go.ChangeShapes Go.WideShapes Go.ChangeAt Go.RowKit
open H (ky Owns MapOf ix up nameAt anc Fine obj fault)
def Fresh (X : List Lk) : Prop := ∀ x ∈ X, x.s = ⟨none, 0, 0⟩
theorem Fresh.add {X : List Lk} (h : Fresh X) {x : Lk} (hx : x.s = ⟨none, 0, 0⟩) : Fresh (X ++ [x]) := fun y hy => by
 rcases List.mem_append.1 hy with hy | hy
 · exact h y hy
 · simp only [List.mem_singleton] at hy
   rw [hy]
   exact hx
theorem ix_new {l : List ByteArray} {s : ByteArray} {r : List ByteArray} (h : (l ++ s :: r).Nodup) : ix s l = none := by
 rw [H.ix_none]
 intro hm
 rw [List.nodup_append] at h
 exact h.2.2 s hm s (by simp) rfl
theorem pb0 (w : World) (hp : Nat) : PB w ((w.alloc (.map #[] 0)).alloc (.cells #[.pointer (some ⟨hp, 0, none⟩), .map (some w.heap.size), .slice none 0 0] 120)) (w.heap.size + 1) hp w.heap.size (.slice none 0 0) [] [] := by
 have sz : (w.alloc (.map #[] 0)).heap.size = w.heap.size + 1 := by simp
 refine ⟨((Fr.refl no w).allocMap).alloc _ _, ?_, ⟨.map [], (World.ownsMap_made (H := Unit) w Tryz.prog 9 (plainElem Tryz.prog 3)).alloc _, H.mapOf_nil⟩, OwnG.nil _ _, rfl, fun i x y hx => by simp at hx, ⟨by omega, by omega, NewV.nil _⟩, fun x hx => by simp at hx, fun i j x x' hx => by simp at hx, fun x hx => by simp at hx⟩
 rw [← sz]
 exact heap_alloc_new _ _
set_option maxRecDepth 100000 in
set_option maxHeartbeats 4000000 in
theorem assemble_any (w : World) (hp : Nat) (cs : List Cl) (v : Value) (hv : CsAt w v cs) (hf : Fits cs) (ch : Nat) (A : List Nat) (hH : H.HB ch w hp (namesOf (allC cs)) A) (hA : Fine (allC cs).length A) :
 Calls Tryz.prog 23 #[.pointer (some ⟨hp, 0, none⟩), v] w fun e w' => ∃ p m v' X, e = .returned (.pointer (some ⟨p, 0, none⟩)) ∧ PB w w' p hp m v' X (layAll (allC cs) A) := by
 obtain ⟨ks, hk1, hk2, hk3⟩ := hv.ex
 obtain ⟨q, cap, rfl⟩ := hk1.form
 rw [hk2] at hk1 ⊢
 have P0 := pb0 w hp
 have HH : Hid (H.HB ch w hp (namesOf (allC cs)) A ∧ Fine (allC cs).length A) := ⟨hH, hA⟩
 have HK : Hid (SlG elKs w (.slice q cs.length cap) ks ∧ ks.length = cs.length ∧ ∀ (i : Nat) (s : Ks) (c : Cl), ks[i]? = some s → cs[i]? = some c → ClAt w s c) := ⟨hk1, hk2, hk3⟩
 have HF : Hid (Fits cs) := hf
 have nd := hf.nd
 have n1 : ix objC.name (([] : List Li).map (·.c.name)) = none := rfl
 have n2 : ix faultC.name ([li0 objC].map (·.c.name)) = none := by decide
 have hl16 : cs.length ≤ 16 := hf.few
 have A1 : Hid (Calls Tryz.prog 46 _ _ _) := add_any w _ (w.heap.size + 1) hp w.heap.size _ [] [] P0 objC ⟨obj, e0, ⟨none, 0, 0⟩, ⟨none, 0, 0⟩, ⟨none, 0, 0⟩⟩ ⟨rfl, rfl, OwnG.nil _ _, OwnG.nil _ _, [], OwnG.nil _ _, rfl, fun i x m hx => by simp at hx⟩ n1 (by decide) (by simp)
 have A2 : Hid (∀ x1 v1 X1, PB w x1 (w.heap.size + 1) hp w.heap.size v1 X1 [li0 objC] → Calls Tryz.prog 46 #[.pointer (some ⟨w.heap.size + 1, 0, none⟩), .agg #[.string fault, .string e0, .slice none 0 0, .slice (some ⟨x1.heap.size, 0, none⟩) 1 1, .slice none 0 0]] (x1.alloc (.cells #[.string ⟨#[99, 111, 100, 101]⟩, .int .i64 1, .string e0, .bool false] 109)) fun e w' => e = .returned (.tuple #[]) ∧ ∃ v' x, x.s = ⟨none, 0, 0⟩ ∧ PB w w' (w.heap.size + 1) hp w.heap.size v' (X1 ++ [x]) ([li0 objC] ++ [li0 faultC])) := fun x1 v1 X1 hP => by
  have hfr : Fr no x1 (x1.alloc (.cells #[.string ⟨#[99, 111, 100, 101]⟩, .int .i64 1, .string e0, .bool false] 109)) := (Fr.refl no x1).alloc _ _
  have ol := own_lit okFd x1 faultC.fields #[.string ⟨#[99, 111, 100, 101]⟩, .int .i64 1, .string e0, .bool false] rfl (by decide)
  exact add_any w _ (w.heap.size + 1) hp w.heap.size _ X1 _ (hP.keep hfr) faultC ⟨fault, e0, ⟨none, 0, 0⟩, ⟨some ⟨x1.heap.size, 0, none⟩, 1, 1⟩, ⟨none, 0, 0⟩⟩ ⟨rfl, rfl, OwnG.nil _ _, ol, [], OwnG.nil _ _, rfl, fun i x m hx => by simp at hx⟩ n2 (by decide) (by simp)
 unfold ksV at A1
 simp only [obj, fault, e0] at A1 A2
 clear hk1 hk2 hk3 hv hf hH hA P0
 generalize hn : cs.length = n at *
 have hmm := @run_makeMap Tryz.prog
 go_enter Tryz.func23, Tryz.ntmps23
 go_wp2_with fail
 refine A1.out.mono ?_
 rintro e x1 ⟨rfl, v1, y1, hy1, P1⟩
 have HP1 : Hid (_) := P1
 clear P1
 go_wp2_with fail
 refine (A2.out x1 v1 _ HP1.out).mono ?_
 rintro e x2 ⟨rfl, v2, y2, hy2, P2⟩
 have HP2 : Hid (_) := P2
 clear P2
 go_wp2_with fail
 clear hmm
 go_loopw [24] (fun i wr => ∃ (k : Nat) (v' : Value) (X : List Lk), i = .int .i64 (k : Int) ∧ k ≤ n ∧ PB w wr (w.heap.size + 1) hp w.heap.size v' X ((allC (cs.take k)).map li0) ∧ Fresh X) (fun i _ => n - (intOf i).toNat)
 case atStart =>
  refine ⟨0, v2, _, rfl, Nat.zero_le _, HP2.out, ?_⟩
  have f0 : Fresh [] := fun x hx => by simp at hx
  exact (f0.add hy1).add hy2
 case round =>
  obtain ⟨k, vk, X, rfl, hk, PK, fr⟩ := hrel
  by_cases hlt : k < n
  · have hki : (k : Int) < (n : Int) := by omega
    obtain ⟨hk1, hk2, hk3⟩ := HK.out
    obtain ⟨sx, hsx⟩ : ∃ sx, ks[k]? = some sx := ⟨_, List.getElem?_eq_getElem (by omega)⟩
    obtain ⟨c, hcx⟩ : ∃ c, cs[k]? = some c := ⟨_, List.getElem?_eq_getElem (by omega)⟩
    have hmem := List.mem_of_getElem? hcx
    obtain ⟨ad, cap', e, -, hmx, hit⟩ := hk1.kept PK.fr
    simp only [Value.slice.injEq] at e
    obtain ⟨rfl, -, rfl⟩ := e
    obtain ⟨b, off, rfl, hc⟩ := hit k sx hsx
    have c0 := hc 0 _ rfl
    have c1 := hc 1 _ rfl
    have c2 := hc 2 _ rfl
    have c3 := hc 3 _ rfl
    have c4 := hc 4 _ rfl
    simp only [elKs, Nat.add_zero] at c0 c1 c2 c3 c4
    have G1 : Fr no wr (wr.alloc (.cells #[.string sx.name, .string sx.super, .slice sx.p.a sx.p.n sx.p.c, .slice sx.f.a sx.f.n sx.f.c, .slice sx.m.a sx.m.n sx.m.c] 51)) := (Fr.refl no wr).alloc _ _
    have CC := copyClass_any _ sx c (((hk3 k sx c hsx hcx).kept PK.fr).kept G1) (HF.out.small c hmem)
    have hnx : ix c.name (((allC (cs.take k)).map li0).map (·.c.name)) = none := by
     refine ix_new (r := (cs.drop (k + 1)).map Cl.name) ?_
     have : ((allC (cs.take k)).map li0).map (·.c.name) ++ c.name :: (cs.drop (k + 1)).map Cl.name = namesOf (allC cs) := by
      unfold namesOf allC
      obtain ⟨hkl, he⟩ := List.getElem?_eq_some_iff.1 hcx
      have hsp : cs = cs.take k ++ c :: cs.drop (k + 1) := by rw [← he, List.getElem_cons_drop hkl, List.take_append_drop]
      conv => rhs; rw [hsp]
      simp [li0, Function.comp_def]
     rw [this]
     exact nd
    have AA : Hid (∀ w', Fr no wr w' → ∀ s', ClOwn w' s' c → _) := fun w' hf' s' hs' => add_any w w' (w.heap.size + 1) hp w.heap.size vk X _ (PK.keep hf') c s' hs' hnx (HF.out.fit c hmem).name (by simp [allC]; omega)
    have HG : Hid (_ ∧ _ ∧ _) := ⟨G1, fr, hcx⟩
    clear hk1 hk2 hk3 hsx hit hc PK G1 fr hnx hcx
    unfold ksV at *
    go_wp2_with fail
    refine CC.mono ?_
    rintro e w2 ⟨s', rfl, o2, f2⟩
    have g2 : Fr no wr w2 := HG.out.1.new f2 (fun _ _ f => f)
    have A3 := AA.out w2 g2 s' o2
    clear CC
    go_wp2_with fail
    refine A3.mono ?_
    rintro e w3 ⟨rfl, v3, x3, hx3, P3⟩
    have HP3 : Hid (_) := P3
    clear P3 A3
    go_wp2_with fail
    go_roundw
    case rel =>
     refine ⟨k + 1, v3, _, by go_num, by omega, ?_, HG.out.2.1.add hx3⟩
     have := HP3.out
     rw [take_next cs k c HG.out.2.2]
     unfold allC at *
     simpa using this
    case measure => simp [intOf]; omega
  · have hkn : k = n := by omega
    subst hkn
    rw [← hn, List.take_length, ← half_zero _ A] at PK
    obtain ⟨qv, cv, rfl⟩ := PK.form
    rw [half_len] at PK
    have hl2 : (allC cs).length = k + 2 := by simp [allC, hn]
    rw [hl2] at PK
    obtain ⟨-, -, b2⟩ := cells3 PK.pb
    have HP : Hid (_ ∧ _) := ⟨PK, fr⟩
    clear PK fr
    have hnl : (namesOf (allC cs)).length = k + 2 := by simp [namesOf, hl2]
    have HL2 : Hid ((allC cs).length = k + 2) := hl2
    clear hl2
    go_wp2_with fail
    go_loopw [38] (fun i wr2 => ∃ (j : Nat) (X2 : List Lk), i = .int .i64 (j : Int) ∧ j ≤ k + 2 ∧ PB w wr2 (w.heap.size + 1) hp w.heap.size (.slice qv (k + 2) cv) X2 (half (allC cs) A j) ∧ (∀ (i : Nat) (x : Lk), j ≤ i → X2[i]? = some x → x.s = ⟨none, 0, 0⟩)) (fun i _ => k + 2 - (intOf i).toNat)
    case atStart => exact ⟨0, X, rfl, Nat.zero_le _, HP.out.1, fun i x _ hx => HP.out.2 x (List.mem_of_getElem? hx)⟩
    case round =>
     obtain ⟨j, X2, rfl, hj, PJ, fj⟩ := hrel
     by_cases hlt2 : j < k + 2
     · have hji : (j : Int) < (k : Int) + 2 := by omega
       have hjl : j < (allC cs).length := by rw [HL2.out]; exact hlt2
       obtain ⟨x, y, hx, hy, -⟩ := PJ.get (i := j) (by rw [half_len]; exact hjl)
       have hy' := hy
       rw [half_get hjl, if_neg (by omega)] at hy'
       simp only [Option.some.injEq] at hy'
       have LO := layOut_any w wr (w.heap.size + 1) hp w.heap.size _ X2 _ PJ ch A (by rw [half_names]; exact HH.out.1) (by rw [half_names]; have := HH.out.2; rw [HL2.out] at this; rw [hnl]; exact this) (by rw [half_names]; exact nd) (by rw [half_len, HL2.out]; omega) (good_of HF.out (half_cls _ _ _)) j x y hx hy (fj j x (Nat.le_refl _) hx) (by rw [← hy']; rfl)
       rw [half_cls, half_next _ _ _ hjl] at LO
       have HJ : Hid (_ ∧ _) := ⟨fj, hx⟩
       clear PJ fj hx hy hy'
       go_wp2_with fail
       refine LO.mono ?_
       rintro e w3 ⟨rfl, x', P3⟩
       have HP3 : Hid (_) := P3
       clear P3 LO
       go_wp2_with fail
       go_roundw
       case rel => exact ⟨j + 1, _, by go_num, by omega, HP3.out, fun i x2 hi hx2 => HJ.out.1 i x2 (by omega) (by rw [List.getElem?_set_ne (by omega)] at hx2; exact hx2)⟩
       case measure => simp [intOf]; omega
     · have hjn : j = k + 2 := by omega
       subst hjn
       rw [← HL2.out, half_all, HL2.out] at PJ
       have HPJ : Hid (_) := PJ
       clear PJ fj
       go_wp2_with fail
       go_ret
       exact ⟨_, _, _, _, rfl, HPJ.out⟩
end Go.Proofs.YtalgjpmaafooeaaGreatDoor
/- What Link tells. -/
namespace Go.Proofs.YtalgjpmaafooeaaGreatDoor
open Go.ChangeShapes Go.WideShapes Go.ChangeAt Go.RowKit
open H (ky Owns MapOf ix up nameAt anc Fine obj fault)
set_option maxRecDepth 100000 in
set_option maxHeartbeats 2000000 in
theorem checkP_any (w : World) (p : Nat) (Cs : List Cl) (A : List Nat) (h : Prg w p Cs A) (hsm : ∀ c ∈ Cs, SmallC c) :
 Calls Tryz.prog 24 #[.pointer (some ⟨p, 0, none⟩)] w fun e w' => e = .returned (.int .i64 (checkE Cs A : Int)) ∧ Fr no w w' := by
 obtain ⟨w0, hp, m, v, X, ch, P, -⟩ := h.ex
 have hXl : X.length = Cs.length := by rw [P.len, layAll_len]
 have key : ∀ (w' : World) (k : Nat) (x : Lk), Fr no w w' → X[k]? = some x → k < Cs.length ∧ ClAt w' x.k (clsAt Cs k) ∧ FitC (clsAt Cs k) := fun w' k x hf hx => by
  have hk : k < Cs.length := by rw [← hXl]; exact (List.getElem?_eq_some_iff.1 hx).1
  have L := P.at' k x _ hx (layAll_get hk)
  have := L.k
  rw [lay_cls] at this
  exact ⟨hk, this.at'.kept hf, (h.cls hk).2.2.2⟩
 have F1 := firstLkM_any w v X (P.row.sl okLk) p (memE Cs A) (fun w' k x hf hx => checkMembers_any w' p Cs A (h.keep hf) k (key w' k x hf hx).1 x (key w' k x hf hx).2.1)
 have HF2 : Hid (∀ w', Fr no w w' → Calls Tryz.prog 49 #[v, .func (.func 51) #[.pointer (some ⟨p, 0, none⟩)] #[]] w' fun r w2 => r = .returned (.int .i64 (firstN (poolE Cs (layAll Cs A)) (List.range' 0 X.length) : Int)) ∧ Fr no w' w2) := fun w1 f1 =>
  firstLkP_any w1 v X ((P.row.sl okLk).kept f1) p (poolE Cs (layAll Cs A)) (fun w' k x hf hx => checkPool_any w' p Cs A ((h.keep f1).keep hf) k x (key w' k x (f1.new hf (fun _ _ f => f)) hx).2.1 (key w' k x (f1.new hf (fun _ _ f => f)) hx).2.2)
 have HM : Hid (∀ w', Fr no w w' → Calls Tryz.prog 52 #[.pointer (some ⟨p, 0, none⟩)] w' fun e w2 => e = .returned (.int .i64 (mainE Cs (layAll Cs A) : Int)) ∧ Fr no w' w2) := fun w' hf => checkMain_any w' p Cs A (h.keep hf) hsm
 rw [hXl, ← List.range_eq_range'] at F1 HF2
 have HE : Hid (checkE Cs A = if firstN (memE Cs A) (List.range Cs.length) ≠ 0 then firstN (memE Cs A) (List.range Cs.length)
  else if firstN (poolE Cs (layAll Cs A)) (List.range Cs.length) ≠ 0 then firstN (poolE Cs (layAll Cs A)) (List.range Cs.length)
  else mainE Cs (layAll Cs A)) := rfl
 obtain ⟨-, -, b2⟩ := cells3 P.pb
 have KB : Hid (∀ w', Fr no w w' → w'.cell? ⟨p, 2, none⟩ = some v) := fun w' hf => hf.cell b2 (fun f => f)
 obtain ⟨q, c, hv⟩ := P.form
 clear P key h hXl hsm
 generalize firstN (memE Cs A) (List.range Cs.length) = e1 at *
 generalize firstN (poolE Cs (layAll Cs A)) (List.range Cs.length) = e2 at *
 generalize mainE Cs (layAll Cs A) = e3 at *
 generalize (layAll Cs A).length = n at *
 subst hv
 by_cases h1 : e1 = 0
 · subst h1
   by_cases h2 : e2 = 0
   · subst h2
     have HN : Hid (checkE Cs A = e3) := by show _ = _; rw [HE.out]; simp
     go_enter Tryz.func24, Tryz.ntmps24
     go_wp2_with fail
     refine F1.mono ?_
     rintro e w1 ⟨rfl, f1⟩
     have b2' := KB.out w1 f1
     go_wp2_with fail
     refine (HF2.out w1 f1).mono ?_
     rintro e w2 ⟨rfl, f2⟩
     have g2 := f1.new f2 (fun _ _ f => f)
     go_wp2_with fail
     refine (HM.out w2 g2).mono ?_
     rintro e w3 ⟨rfl, f3⟩
     go_wp2_with fail
     go_ret
     rw [HN.out]
     exact ⟨rfl, g2.new f3 (fun _ _ f => f)⟩
   · have HN : Hid (checkE Cs A = e2) := by show _ = _; rw [HE.out, if_neg (by simp), if_pos h2]
     have h2' : ((e2 : Int) == 0) = false := by simp; omega
     go_enter Tryz.func24, Tryz.ntmps24
     go_wp2_with fail
     refine F1.mono ?_
     rintro e w1 ⟨rfl, f1⟩
     have b2' := KB.out w1 f1
     go_wp2_with fail
     refine (HF2.out w1 f1).mono ?_
     rintro e w2 ⟨rfl, f2⟩
     have g2 := f1.new f2 (fun _ _ f => f)
     go_wp2_with fail
     go_ret
     rw [HN.out]
     exact ⟨rfl, g2⟩
 · have HN : Hid (checkE Cs A = e1) := by show _ = _; rw [HE.out, if_pos h1]
   have h1' : ((e1 : Int) == 0) = false := by simp; omega
   go_enter Tryz.func24, Tryz.ntmps24
   go_wp2_with fail
   refine F1.mono ?_
   rintro e w1 ⟨rfl, f1⟩
   go_wp2_with fail
   go_ret
   rw [HN.out]
   exact ⟨rfl, f1⟩
def LinkAt (w' : World) (cs : List Cl) (q : Option Addr) : Prop := (linkE cs ≠ 0 → q = none) ∧ (linkE cs = 0 → ∃ p, q = some ⟨p, 0, none⟩ ∧ Prg w' p (allC cs) (newC cs).2.2 ∧ ∀ c ∈ allC cs, SmallC c)
theorem small_obj : SmallC objC := ⟨by decide, by decide, by decide, fun m hm => by simp [objC] at hm⟩
theorem small_fault : SmallC faultC := ⟨by decide, by decide, by decide, fun m hm => by simp [faultC] at hm⟩
set_option maxRecDepth 100000 in
set_option maxHeartbeats 6000000 in
theorem link_any (w : World) (T : Tb w) (R : Tr w) (v : Value) (cs : List Cl) (hv : CsAt w v cs) (hfit : ∀ c ∈ cs, FitC c) (hb : cs.length ≤ 1000) :
 Calls Tryz.prog 10 #[v] w fun e w' => ∃ q, e = .returned (.tuple #[.pointer q, .int .i64 (linkE cs)]) ∧ LinkAt w' cs q ∧ Fr no w w' := by
 obtain ⟨ks, hk1, hk2, hk3⟩ := hv.ex
 have F1 := firstKsC_any w v ks hk1 (fun k => match cs[k]? with | some c => chk c | none => 0) (fun w' k s hf hs => by
  obtain ⟨c, hc⟩ : ∃ c, cs[k]? = some c := ⟨_, List.getElem?_eq_getElem (by rw [← hk2]; exact (List.getElem?_eq_some_iff.1 hs).1)⟩
  have := check_any w' (T.kept hf) (R.kept hf) s c ((hk3 k s c hs hc).kept hf) (hfit c (List.mem_of_getElem? hc))
  simp only [hc]
  exact this)
 rw [hk2, firstN_list chk _ cs 0 (fun i c hc => by rw [Nat.zero_add]; simp only [hc])] at F1
 have HNS : Hid (∀ w', Fr no w w' → Calls Tryz.prog 22 #[v] w' fun e w2 => ∃ v1 v2, e = .returned (.tuple #[v1, v2]) ∧ H.OwnG H.elS w2 v1 (cs.map Cl.name) ∧ H.OwnG H.elS w2 v2 (cs.map Cl.super) ∧ Fr no w' w2) := fun w' hf => namesSupers_any w' v cs (hv.kept hf) hb
 have HNW : Hid (∀ w' v1 v2, H.OwnG H.elS w' v1 (cs.map Cl.name) → H.OwnG H.elS w' v2 (cs.map Cl.super) → Calls Tryz.prog 21 #[v1, v2] w' fun e w2 => ∃ q, e = .returned (.tuple #[.pointer q, .int .i64 (newC cs).1]) ∧ H.NewAt w' w2 (newC cs) q ∧ Fr no w' w2) := fun w' v1 v2 o1 o2 =>
  H.new_any w' v1 v2 (cs.map Cl.name) (cs.map Cl.super) o1.sl o2.sl (fun x hx => by obtain ⟨c, hc, rfl⟩ := List.mem_map.1 hx; exact (hfit c hc).name) (fun x hx => by obtain ⟨c, hc, rfl⟩ := List.mem_map.1 hx; exact (hfit c hc).super) (by rw [List.length_map]; omega) (by rw [List.length_map]; omega)
 have HAS : Hid (∀ w' p, Fr no w w' → firstN chk cs = 0 → (newC cs).1 = 0 → ∀ ch, H.HB ch w' p (newC cs).2.1 (newC cs).2.2 → Fine (newC cs).2.1.length (newC cs).2.2 → (∀ c ∈ allC cs, SmallC c) ∧ Calls Tryz.prog 23 #[.pointer (some ⟨p, 0, none⟩), v] w' fun e w2 => ∃ pp, e = .returned (.pointer (some ⟨pp, 0, none⟩)) ∧ Prg w2 pp (allC cs) (newC cs).2.2 ∧ Fr no w' w2) := fun w' p hf hc hn ch hb' hfine => by
  obtain ⟨n1, n2, n3⟩ := newC_ok hn
  have hsm : ∀ c ∈ cs, SmallC c := fun c hcm => small_c (firstN_zero hc c hcm)
  have hF : Fits cs := ⟨hfit, hsm, n1, n3⟩
  rw [n2] at hb' hfine
  have hfine' : Fine (allC cs).length (newC cs).2.2 := by simpa [namesOf] using hfine
  refine ⟨fun c hcm => ?_, (assemble_any w' p cs v (hv.kept hf) hF ch (newC cs).2.2 hb' hfine').mono ?_⟩
  · simp only [allC, List.mem_cons] at hcm
    rcases hcm with rfl | rfl | hcm
    · exact small_obj
    · exact small_fault
    · exact hsm c hcm
  · rintro e w2 ⟨pp, mm, v', X, rfl, P⟩
    exact ⟨pp, rfl, ⟨⟨w', p, mm, v', X, ch, P, hb'.keep P.fr⟩, hfine', n3, by simp [allC]; omega, good_of hF (layAll_cls _ _)⟩, P.fr⟩
 have HCK : Hid (∀ w' pp, Prg w' pp (allC cs) (newC cs).2.2 → (∀ c ∈ allC cs, SmallC c) → Calls Tryz.prog 24 #[.pointer (some ⟨pp, 0, none⟩)] w' fun e w2 => e = .returned (.int .i64 (checkE (allC cs) (newC cs).2.2 : Int)) ∧ Fr no w' w2) := fun w' pp hP hs => checkP_any w' pp _ _ hP hs
 have HE : Hid (linkE cs = if firstN chk cs ≠ 0 then (firstN chk cs : Int) else if (newC cs).1 ≠ 0 then (newC cs).1 else (checkE (allC cs) (newC cs).2.2 : Int)) := rfl
 obtain ⟨q, cap, rfl⟩ := hk1.form
 clear hk1 hk2 hk3 hv hfit hb T R
 generalize ks.length = nk at *
 generalize he1 : firstN chk cs = e1 at *
 by_cases h1 : e1 = 0
 · subst h1
   generalize hNC : newC cs = NC at *
   by_cases h2 : NC.1 = 0
   · by_cases h3 : checkE (allC cs) NC.2.2 = 0
     · have HN : Hid (linkE cs = 0) := by show _ = _; rw [HE.out, if_neg (by simp), if_neg (fun e => e h2), h3]; rfl
       go_enter Tryz.func10, Tryz.ntmps10
       go_wp2_with fail
       refine F1.mono ?_
       rintro e w1 ⟨rfl, f1⟩
       go_wp2_with fail
       refine (HNS.out w1 f1).mono ?_
       rintro e w2 ⟨v1, v2, rfl, o1, o2, f2⟩
       have NW := HNW.out w2 v1 v2 o1 o2
       obtain ⟨q1, c1, rfl⟩ := o1.form
       obtain ⟨q2, c2, rfl⟩ := o2.form
       rw [List.length_map, List.length_map] at NW
       rw [h2] at NW
       have g2 := f1.new f2 (fun _ _ f => f)
       clear o1 o2
       go_wp2_with fail
       refine NW.mono ?_
       rintro e w3 ⟨q3, rfl, hat, f3⟩
       obtain ⟨hpp, rfl, hb3, hfine3, -⟩ := hat.2 h2
       have g3 := g2.new f3 (fun _ _ f => f)
       obtain ⟨hsm, AS⟩ := HAS.out w3 hpp g3 (by simp) h2 _ hb3 hfine3
       clear NW hat hb3
       go_wp2_with fail
       refine AS.mono ?_
       rintro e w4 ⟨pp, rfl, hP, f4⟩
       have g4 := g3.new f4 (fun _ _ f => f)
       have CK := HCK.out w4 pp hP hsm
       rw [h3] at CK
       clear AS
       go_wp2_with fail
       refine CK.mono ?_
       rintro e w5 ⟨rfl, f5⟩
       have HZ : Hid (_ ∧ _) := ⟨hP.keep f5, g4.new f5 (fun _ _ f => f)⟩
       clear CK hP
       go_wp2_with fail
       go_ret2
       refine ⟨some ⟨pp, 0, none⟩, by rw [HN.out]; rfl, ⟨fun e => absurd HN.out e, fun _ => ⟨pp, rfl, ?_, hsm⟩⟩, HZ.out.2⟩
       rw [hNC]
       exact HZ.out.1
     · have HN : Hid (linkE cs = (checkE (allC cs) NC.2.2 : Int)) := by show _ = _; rw [HE.out, if_neg (by simp), if_neg (fun e => e h2)]
       have HNZ : Hid (linkE cs ≠ 0) := by show _ ≠ _; rw [HN.out]; omega
       have h3' : ((checkE (allC cs) NC.2.2 : Int) == 0) = false := by simp; omega
       generalize checkE (allC cs) NC.2.2 = e3 at *
       go_enter Tryz.func10, Tryz.ntmps10
       go_wp2_with fail
       refine F1.mono ?_
       rintro e w1 ⟨rfl, f1⟩
       go_wp2_with fail
       refine (HNS.out w1 f1).mono ?_
       rintro e w2 ⟨v1, v2, rfl, o1, o2, f2⟩
       have NW := HNW.out w2 v1 v2 o1 o2
       obtain ⟨q1, c1, rfl⟩ := o1.form
       obtain ⟨q2, c2, rfl⟩ := o2.form
       rw [List.length_map, List.length_map] at NW
       rw [h2] at NW
       have g2 := f1.new f2 (fun _ _ f => f)
       clear o1 o2
       go_wp2_with fail
       refine NW.mono ?_
       rintro e w3 ⟨q3, rfl, hat, f3⟩
       obtain ⟨hpp, rfl, hb3, hfine3, -⟩ := hat.2 h2
       have g3 := g2.new f3 (fun _ _ f => f)
       obtain ⟨hsm, AS⟩ := HAS.out w3 hpp g3 (by simp) h2 _ hb3 hfine3
       clear NW hat hb3
       go_wp2_with fail
       refine AS.mono ?_
       rintro e w4 ⟨pp, rfl, hP, f4⟩
       have g4 := g3.new f4 (fun _ _ f => f)
       have CK := HCK.out w4 pp hP hsm
       clear AS hP
       go_wp2_with fail
       refine CK.mono ?_
       rintro e w5 ⟨rfl, f5⟩
       have HZ : Hid (_) := g4.new f5 (fun _ _ f => f)
       clear CK
       go_wp2_with fail
       go_ret2
       exact ⟨none, by rw [HN.out]; rfl, ⟨fun _ => rfl, fun e => absurd e HNZ.out⟩, HZ.out⟩
   · have HN : Hid (linkE cs = NC.1) := by show _ = _; rw [HE.out, if_neg (by simp), if_pos h2]
     have HNZ : Hid (linkE cs ≠ 0) := by show _ ≠ _; rw [HN.out]; exact h2
     have h2' : (NC.1 == 0) = false := by simpa using h2
     generalize hn1 : NC.1 = e2 at *
     go_enter Tryz.func10, Tryz.ntmps10
     go_wp2_with fail
     refine F1.mono ?_
     rintro e w1 ⟨rfl, f1⟩
     go_wp2_with fail
     refine (HNS.out w1 f1).mono ?_
     rintro e w2 ⟨v1, v2, rfl, o1, o2, f2⟩
     have NW := HNW.out w2 v1 v2 o1 o2
     obtain ⟨q1, c1, rfl⟩ := o1.form
     obtain ⟨q2, c2, rfl⟩ := o2.form
     rw [List.length_map, List.length_map] at NW
     have g2 := f1.new f2 (fun _ _ f => f)
     clear o1 o2
     go_wp2_with fail
     refine NW.mono ?_
     rintro e w3 ⟨q3, rfl, hat, f3⟩
     have g3 := g2.new f3 (fun _ _ f => f)
     clear NW
     go_wp2_with fail
     go_ret2
     exact ⟨none, by rw [HN.out]; rfl, ⟨fun _ => rfl, fun e => absurd e HNZ.out⟩, g3⟩
 · have HN : Hid (linkE cs = (e1 : Int)) := by show _ = _; rw [HE.out, if_pos h1]
   have HNZ : Hid (linkE cs ≠ 0) := by show _ ≠ _; rw [HN.out]; omega
   have h1' : ((e1 : Int) == 0) = false := by simp; omega
   go_enter Tryz.func10, Tryz.ntmps10
   go_wp2_with fail
   refine F1.mono ?_
   rintro e w1 ⟨rfl, f1⟩
   go_wp2_with fail
   go_ret2
   exact ⟨none, by rw [HN.out]; rfl, ⟨fun _ => rfl, fun e => absurd e HNZ.out⟩, f1⟩
end Go.Proofs.YtalgjpmaafooeaaGreatDoor
