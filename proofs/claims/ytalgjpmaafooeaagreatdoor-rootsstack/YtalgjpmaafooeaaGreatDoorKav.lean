/- Straight code: the states along it. -/
import Derived.Test.YtalgjpmaafooeaaGreatDoorKau
namespace Go.Proofs.YtalgjpmaafooeaaGreatDoor
open Go.ChangeShapes Go.WideShapes Go.ChangeAt Go.RowKit
open H (ky Owns MapOf ix NewV)
def lineS : List (Int × Int) → Stt → Nat → Stt
 | _, x, 0 => x
 | [], x, _ => x
 | ins :: l, x, j + 1 => lineS l (runS (ruleP ins.1) ins x) j
theorem settle_lineS (K : Int) (cd : List (Int × Int)) : ∀ (l : List (Int × Int)) (i : Nat) (x : Stt) (p : Ps) (fuel : Nat), cd.drop i = l ++ [(33, 0)] → AtI cd.length p i x → lineOk K l x → l.length + 2 ≤ fuel →
 ∃ ps, settleP K cd (cd.map fun y => ruleP y.1) fuel i p = some (lineE K l x, ps) ∧ (lineE K l x = 0 → (∀ j, j ≤ i → ps.1[j]? = p.1[j]?) ∧ ps.1.length = cd.length ∧ ∀ j, j ≤ l.length → ps.1[i + j]? = some (lineS l x j)) := by
 intro l
 induction l with
 | nil =>
  intro i x p fuel hcd h hok hf
  obtain ⟨n, rfl⟩ : ∃ n, fuel = n + 2 := ⟨fuel - 2, by simp at hf; omega⟩
  have hins : cd[i]? = some (33, 0) := by
   have : (cd.drop i)[0]? = some (33, 0) := by rw [hcd]; rfl
   rwa [List.getElem?_drop, Nat.add_zero] at this
  have hr : (cd.map fun y => ruleP y.1)[i]? = some (ruleP 33) := by rw [List.getElem?_map, hins]; rfl
  have hm := h.mks i h.lt
  rw [decide_eq_true rfl] at hm
  obtain ⟨hxr, hx1, hx2⟩ := hok
  have hk : OkL (33, 0) x := by
   refine ⟨hxr, by intro t ht; simp [ruleP] at ht, fun e => by simp at e, by decide, fun e => by simp at e, fun e => by simp at e, ?_⟩
   exact ⟨by decide, by decide, hx1, by simp [ruleP, runS]; omega⟩
  have hOk := okS_of K cd (33, 0) i (p.1, p.2.set i false) x hk (fun e => absurd e (by decide +kernel)) (by decide +kernel)
  have h0 : runErr (ruleP 33) (33, 0) x = 0 := by simp [runErr, ruleP, readE]
  have hst : stepP K (ruleP 33) (33, 0) i (p.1, p.2.set i false) = (0, (p.1, p.2.set i false)) := by
   unfold stepP
   simp only [getD_of h.cur zS]
   rw [if_neg (by rw [h0]; simp)]
   have a1 : after1 K (33, 0) (runS (ruleP 33) (33, 0) x) i (p.1, p.2.set i false) = (0, (p.1, p.2.set i false)) := by
    unfold after1
    rw [if_neg (by decide +kernel)]
   rw [a1, if_neg (by simp)]
   unfold after2
   rw [if_neg (by decide +kernel)]
  refine ⟨(p.1, p.2.set i false), ?_, fun _ => ⟨fun j _ => rfl, h.l1, fun j hj => by
   obtain rfl : j = 0 := by simpa using hj
   exact h.cur⟩⟩
  unfold settleP
  rw [if_neg (by rw [contains_at h]; simp), getD_of hm false, if_pos rfl, getD_of hr zR, getD_of hins (0, 0), getD_of h.cur zS, if_pos hOk, hst, if_neg (by simp)]
  unfold settleP
  rw [if_pos]
  · rfl
  · rw [Bool.eq_false_iff]
    intro hc
    rw [List.contains_iff_mem] at hc
    obtain ⟨j, hj⟩ := List.mem_iff_getElem?.1 hc
    have hjl : j < cd.length := by
     have := (List.getElem?_eq_some_iff.1 hj).1
     simpa [h.l2] using this
    rw [setMark h.l2 h.lt h.mks j hjl] at hj
    cases hj
 | cons ins l ih =>
  intro i x p fuel hcd h hok hf
  obtain ⟨n, rfl⟩ : ∃ n, fuel = n + 1 := ⟨fuel - 1, by simp at hf; omega⟩
  have hins : cd[i]? = some ins := by
   have : (cd.drop i)[0]? = some ins := by rw [hcd]; rfl
   rwa [List.getElem?_drop, Nat.add_zero] at this
  have hr : (cd.map fun y => ruleP y.1)[i]? = some (ruleP ins.1) := by rw [List.getElem?_map, hins]; rfl
  have hm := h.mks i h.lt
  rw [decide_eq_true rfl] at hm
  obtain ⟨hk, hs1, hs2, hnx⟩ := hok
  have hdl : cd.length - i = (ins :: l ++ [(33, 0)]).length := by rw [← List.length_drop, hcd]
  have hi1 : i + 1 < cd.length := by simp at hdl; omega
  have hz : p.1.getD (i + 1) zS = zS := getD_of (h.rest (i + 1) (by omega) hi1) zS
  have hOk := okS_of K cd ins i (p.1, p.2.set i false) x hk (fun _ => ⟨hi1, hz⟩) hs2
  unfold settleP
  rw [if_neg (by rw [contains_at h]; simp), getD_of hm false, if_pos rfl, getD_of hr zR, getD_of hins (0, 0), getD_of h.cur zS, if_pos hOk]
  unfold lineE
  by_cases h0 : runErr (ruleP ins.1) ins x = 0
  · have hre : reachErr K zS (runS (ruleP ins.1) ins x) = if K < (runS (ruleP ins.1) ins x).st.length then 81 else 0 := by
     unfold reachErr
     by_cases e : K < (runS (ruleP ins.1) ins x).st.length
     · rw [if_pos e, if_pos e]
     · rw [if_neg e, if_neg e, if_pos (show zS.r = false from rfl)]
    have hrx : reachX zS (runS (ruleP ins.1) ins x) = runS (ruleP ins.1) ins x := by
     unfold reachX
     rw [if_pos (show zS.r = false from rfl)]
     rfl
    have hrc : reachC zS (runS (ruleP ins.1) ins x) ((p.2.set i false).getD (i + 1) false) = true := by unfold reachC; rw [if_pos (show zS.r = false from rfl)]
    have a1 : after1 K ins (runS (ruleP ins.1) ins x) i (p.1, p.2.set i false) = (if K < (runS (ruleP ins.1) ins x).st.length then 81 else 0, (p.1.set (i + 1) (runS (ruleP ins.1) ins x), (p.2.set i false).set (i + 1) true)) := by
     unfold after1 rchE rch
     rw [if_pos hs1]
     simp only [hz, hre, hrx, hrc]
    by_cases e : K < (runS (ruleP ins.1) ins x).st.length
    · have hst : stepP K (ruleP ins.1) ins i (p.1, p.2.set i false) = (81, (p.1.set (i + 1) (runS (ruleP ins.1) ins x), (p.2.set i false).set (i + 1) true)) := by
       unfold stepP
       simp only [getD_of h.cur zS]
       rw [if_neg (by rw [h0]; simp), a1, if_pos e, if_pos (by simp)]
      rw [hst, if_pos (by simp), if_neg (show ¬ runErr (ruleP ins.1) ins x ≠ 0 from fun c => c h0), if_pos e]
      exact ⟨_, rfl, fun h => absurd h (by decide)⟩
    · have hst : stepP K (ruleP ins.1) ins i (p.1, p.2.set i false) = (0, (p.1.set (i + 1) (runS (ruleP ins.1) ins x), (p.2.set i false).set (i + 1) true)) := by
       unfold stepP
       simp only [getD_of h.cur zS]
       rw [if_neg (by rw [h0]; simp), a1, if_neg e, if_neg (by simp)]
       unfold after2
       rw [if_neg (by rw [hs2]; simp)]
      rw [hst, if_neg (by simp), if_neg (show ¬ runErr (ruleP ins.1) ins x ≠ 0 from fun c => c h0), if_neg e]
      rw [Nat.mod_eq_of_lt hi1]
      have hd : cd.drop (i + 1) = l ++ [(33, 0)] := by
       have : cd.drop (i + 1) = (cd.drop i).drop 1 := by rw [List.drop_drop]
       rw [this, hcd]
       rfl
      obtain ⟨ps, q1, q2⟩ := ih (i + 1) _ _ n hd (h.step hi1 (runS (ruleP ins.1) ins x)) (hnx h0 e) (by simp at hf; omega)
      refine ⟨ps, q1, fun hz => ?_⟩
      obtain ⟨q3, q5, q4⟩ := q2 hz
      refine ⟨fun j hj => ?_, q5, fun j hj => ?_⟩
      · rw [q3 j (by omega)]
        exact List.getElem?_set_ne (by omega)
      · cases j with
        | zero =>
         rw [Nat.add_zero, q3 i (by omega)]
         show (p.1.set (i + 1) _)[i]? = _
         rw [List.getElem?_set_ne (by omega), h.cur]
         rfl
        | succ j =>
         have := q4 j (by simpa using hj)
         rw [show i + (j + 1) = i + 1 + j by omega]
         exact this
  · have hst : stepP K (ruleP ins.1) ins i (p.1, p.2.set i false) = (runErr (ruleP ins.1) ins x, (p.1, p.2.set i false)) := by
     unfold stepP
     simp only [getD_of h.cur zS]
     rw [if_pos h0]
    rw [hst, if_pos h0, if_pos h0]
    exact ⟨_, rfl, fun h => absurd h h0⟩
end Go.Proofs.YtalgjpmaafooeaaGreatDoor
/- The statements' first question: two small programs, one that is accepted and one that isn't. -/
namespace Go.Proofs.YtalgjpmaafooeaaGreatDoor
open Go.ChangeShapes Go.WideShapes Go.ChangeAt Go.RowKit
open H (ky Owns MapOf ix NewV)
theorem nopool : ∀ x ∈ ([] : List Cs), fitS x.c ∧ fitS x.m := fun x hx => by simp at hx
theorem Fl.local {w : World} {S C c n : Nat} {xs : List Stt} {ch : List Bool} (h : Fl w S C c n xs ch) {i : Nat} {x : Stt} (hx : xs[i]? = some x) (hr : x.r = true) {j : Nat} {t : Ty} (ht : x.lo[j]? = some t) :
 ∃ b off cap, w.cell? ⟨S, i * 4 + 1, none⟩ = some (.slice (some ⟨b, off, none⟩) x.lo.length cap) ∧ w.cell? ⟨b, off + j * 2, none⟩ = some (.int .i64 t.k) := by
 obtain ⟨ss, s1, s2, s3, -⟩ := h.ex
 have hi : i < ss.length := by
  have := (List.getElem?_eq_some_iff.1 hx).1
  rw [h.lx] at this
  omega
 obtain ⟨sx, hsx⟩ : ∃ sx, ss[i]? = some sx := ⟨_, List.getElem?_eq_getElem hi⟩
 have SA := s3 i sx x hsx hx
 obtain ⟨ad, cap, e, -, -, hit⟩ := s1.sl okSa
 simp only [Value.slice.injEq] at e
 obtain ⟨rfl, -, -⟩ := e
 obtain ⟨b', off', e, hcs⟩ := hit i sx hsx
 simp only [Option.some.injEq, Addr.mk.injEq, and_true] at e
 obtain ⟨rfl, rfl⟩ := e
 have d1 := hcs 1 _ rfl
 simp only [elSa, Nat.zero_add] at d1
 obtain ⟨b, off, cap, e, q0, -⟩ := ty_at ((SA.lo hr).1.sl okTy) ht
 rw [e] at d1
 exact ⟨b, off, cap, d1, q0⟩
theorem lit_ins (w : World) (l : List (Int × Int)) (cs : Array Value) (hc : cs = (cg elIn l).toArray) (h : l.length ≤ 1000) : SlG elIn (w.alloc (.cells cs 27)) (.slice (some ⟨w.heap.size, 0, none⟩) l.length l.length) l :=
 (own_lit okIn w l cs hc (Nat.le_trans h (by decide))).sl okIn
end Go.Proofs.YtalgjpmaafooeaaGreatDoor
/- Locks that are held: a row of six numbers, and how many of them count. -/
namespace Go.Proofs.YtalgjpmaafooeaaGreatDoor
open Go.ChangeShapes Go.WideShapes Go.ChangeAt Go.RowKit
open H (ix NewV)
def inI (s : Int) (l : List Int) : Bool := l.any fun x => decide (x = s)
theorem inI_iff {s : Int} {l : List Int} : inI s l = true ↔ s ∈ l := by
 unfold inI
 rw [List.any_eq_true]
 constructor
 · rintro ⟨x, hx, h⟩
   rw [← of_decide_eq_true h]
   exact hx
 · intro h
   exact ⟨s, h, decide_eq_true rfl⟩
def hlC (h : List Int) : List Value := [.int .i64 (h.length : Int), .int .i64 (h.getD 0 0), .int .i64 (h.getD 1 0), .int .i64 (h.getD 2 0), .int .i64 (h.getD 3 0), .int .i64 (h.getD 4 0), .int .i64 (h.getD 5 0)]
def hlV (h : List Int) : Value := .agg (hlC h).toArray
def elHl : El (List Int) := { t := 100, e := 99, n := 7, z := .agg #[.int .i64 0, .int .i64 0, .int .i64 0, .int .i64 0, .int .i64 0, .int .i64 0, .int .i64 0], b := 56, f := hlC }
theorem okHl : elHl.Ok where
 und := Tryz.underlying100
 info := by kernel_rfl
 len := fun _ => rfl
 one := fun x u hu => by simp only [elHl, hlC, List.mem_cons, List.not_mem_nil, or_false] at hu; rcases hu with rfl | rfl | rfl | rfl | rfl | rfl | rfl <;> rfl
 nb := fun x u hu => by simp only [elHl, hlC, List.mem_cons, List.not_mem_nil, or_false] at hu; rcases hu with rfl | rfl | rfl | rfl | rfl | rfl | rfl <;> exact nob_int _
 zlen := by kernel_rfl
 znb := fun u hu => by
  have : u ∈ [Value.int .i64 0, .int .i64 0, .int .i64 0, .int .i64 0, .int .i64 0, .int .i64 0, .int .i64 0] := by
   have e : elHl.z.cells = #[Value.int .i64 0, .int .i64 0, .int .i64 0, .int .i64 0, .int .i64 0, .int .i64 0, .int .i64 0] := by kernel_rfl
   rw [e] at hu
   exact hu
  simp at this; subst this; exact nob_int _
 bs := by decide
 pos := by decide
set_option maxRecDepth 100000 in
set_option maxHeartbeats 1000000 in
theorem indexI_any (w : World) (ad : Option Addr) (l : List Int) (cp : Nat) (hcap : l.length ≤ cp) (hmx : cp ≤ 1000) (hit : ∀ (i : Nat) (x : Int), l[i]? = some x → ∃ b off, ad = some ⟨b, off, none⟩ ∧ w.cell? ⟨b, off + i, none⟩ = some (.int .i64 x)) (s : Int) :
 Calls Tryz.prog 145 #[.slice ad l.length cp, .int .i64 s] w fun e w' => ∃ z : Int, e = .returned (.int .i64 z) ∧ decide (0 ≤ z) = inI s l ∧ w' = w := by
 have HI : Hid _ := hit
 clear hit
 go_enter Tryz.func145, Tryz.ntmps145
 go_wp2_with fail
 go_loop [8] (fun i => ∃ (k : Nat), i = .int .i64 (k : Int) ∧ k ≤ l.length ∧ inI s (l.take k) = false) (fun i => l.length - (intOf i).toNat)
 case atStart => exact ⟨0, rfl, by omega, rfl⟩
 case round =>
  obtain ⟨k, rfl, hk, hall⟩ := hrel
  have HA : Hid (inI s (l.take k) = false) := hall
  clear hall
  by_cases hlt : k < l.length
  · obtain ⟨x, hx⟩ : ∃ x, l[k]? = some x := ⟨_, List.getElem?_eq_getElem hlt⟩
    obtain ⟨b, off, rfl, hc⟩ := HI.out k x hx
    have HX : Hid (l[k]? = some x) := hx
    clear hx
    have hlt' : (k : Int) < (l.length : Int) := by omega
    by_cases hn : s = x
    · subst hn
      have HT : Hid (inI s l = true) := inI_iff.2 (List.mem_of_getElem? HX.out)
      go_wp2_with fail
      go_ret
      refine ⟨_, rfl, ?_, rfl⟩
      rw [HT.out]
      simp
    · have hn' : (s == x) = false := by simpa using hn
      have HT : Hid (inI s (l.take (k + 1)) = false) := by
       show _ = _
       rw [take_next l k x HX.out]
       have := HA.out
       unfold inI at this ⊢
       rw [List.any_append, this]
       simp [Ne.symm hn]
      clear hn
      go_wp2_with fail
      go_round
      case rel => exact ⟨k + 1, by go_num, by omega, HT.out⟩
      case measure => simp [intOf]; omega
  · have hkl : k = l.length := by omega
    subst hkl
    have HT : Hid (inI s l = false) := by
     have := HA.out
     rwa [List.take_length] at this
    go_wp2_with fail
    go_ret
    refine ⟨_, rfl, ?_, rfl⟩
    rw [HT.out]
    rfl
set_option maxRecDepth 100000 in
theorem containsI_any (w : World) (ad : Option Addr) (l : List Int) (cp : Nat) (hcap : l.length ≤ cp) (hmx : cp ≤ 1000) (hit : ∀ (i : Nat) (x : Int), l[i]? = some x → ∃ b off, ad = some ⟨b, off, none⟩ ∧ w.cell? ⟨b, off + i, none⟩ = some (.int .i64 x)) (s : Int) :
 Calls Tryz.prog 137 #[.slice ad l.length cp, .int .i64 s] w fun e w' => e = .returned (.bool (inI s l)) ∧ w' = w := by
 have I := indexI_any w ad l cp hcap hmx hit s
 clear hit
 generalize inI s l = b at *
 generalize l.length = n at *
 go_enter Tryz.func137, Tryz.ntmps137
 go_wp2_with fail
 refine I.mono ?_
 rintro e w1 ⟨z, rfl, hz, rfl⟩
 have HZ : Hid (decide (0 ≤ z) = b) := hz
 clear hz
 go_wp2_with fail
 go_ret
 rw [← HZ.out]
 exact ⟨rfl, rfl⟩
theorem slice_held (w : World) (B n : Nat) (h : n ≤ 6) : (Instr.sliceAt 97 (.pointer (some ⟨B, 1, none⟩)) none (some (.int .i64 (n : Int))) none).run Tryz.prog w = .ok (.slice (some ⟨B, 1, none⟩) n 6) w := by
 obtain rfl | rfl | rfl | rfl | rfl | rfl | rfl : n = 0 ∨ n = 1 ∨ n = 2 ∨ n = 3 ∨ n = 4 ∨ n = 5 ∨ n = 6 := by omega
 all_goals kernel_rfl
theorem held_get (h : List Int) (hl : h.length ≤ 6) (i : Nat) (x : Int) (hx : h[i]? = some x) : (hlC h)[1 + i]? = some (.int .i64 x) := by
 have hi := (List.getElem?_eq_some_iff.1 hx).1
 have e : h.getD i 0 = x := getD_of hx 0
 rw [← e]
 obtain rfl | rfl | rfl | rfl | rfl | rfl : i = 0 ∨ i = 1 ∨ i = 2 ∨ i = 3 ∨ i = 4 ∨ i = 5 := by omega
 all_goals rfl
set_option maxRecDepth 100000 in
set_option maxHeartbeats 1000000 in
theorem heldHas_any (w : World) (h : List Int) (hl : h.length ≤ 6) (x : Int) : Calls Tryz.prog 119 #[hlV h, .int .i64 x] w fun e w' => e = .returned (.bool (inI x h)) ∧ Fr no w w' := by
 have F : Fr no w (w.alloc (.cells (hlC h).toArray 99)) := (Fr.refl no w).alloc _ _
 have E : (w.alloc (.cells (hlC h).toArray 99)).heap[w.heap.size]? = some (.cells (hlC h).toArray 99 (0, 0)) := heap_alloc_new w _
 have z0 : (w.alloc (.cells (hlC h).toArray 99)).cell? ⟨w.heap.size, 0, none⟩ = some (.int .i64 (h.length : Int)) := cell_at (o := 0) E
 have C := containsI_any (w.alloc (.cells (hlC h).toArray 99)) (some ⟨w.heap.size, 1, none⟩) h 6 hl (by decide) (fun i y hy => ⟨_, _, rfl, by have := cell_at (o := 1 + i) E; rw [this]; simpa using held_get h hl i y hy⟩) x
 have SL := slice_held (w.alloc (.cells (hlC h).toArray 99)) w.heap.size h.length hl
 have HF : Hid _ := F
 unfold hlV
 clear E F
 generalize (hlC h).toArray = A at *
 generalize h.length = n at *
 generalize hW : w.alloc (.cells A 99) = W at *
 go_enter Tryz.func119, Tryz.ntmps119
 go_wp2_with fail
 refine C.mono ?_
 rintro e w1 ⟨rfl, rfl⟩
 go_wp2_with fail
 go_ret
 exact ⟨rfl, HF.out⟩
end Go.Proofs.YtalgjpmaafooeaaGreatDoor
/- Locks that are held: the last one; one more; one less. -/
namespace Go.Proofs.YtalgjpmaafooeaaGreatDoor
open Go.ChangeShapes Go.WideShapes Go.ChangeAt Go.RowKit
open H (ix NewV)
theorem bx7 {w : World} {q : Nat} {a0 a1 a2 a3 a4 a5 a6 : Value} {t : TypeId} (h : w.heap[q]? = some (.cells #[a0, a1, a2, a3, a4, a5, a6] t (0, 0))) : w.cell? ⟨q, 0, none⟩ = some a0 ∧ w.cell? ⟨q, 1, none⟩ = some a1 ∧ w.cell? ⟨q, 2, none⟩ = some a2 ∧ w.cell? ⟨q, 3, none⟩ = some a3 ∧ w.cell? ⟨q, 4, none⟩ = some a4 ∧ w.cell? ⟨q, 5, none⟩ = some a5 ∧ w.cell? ⟨q, 6, none⟩ = some a6 :=
 ⟨cell_at h, cell_at h, cell_at h, cell_at h, cell_at h, cell_at h, cell_at h⟩
theorem held_cases {C : List Int → Prop} (h : List Int) (hl : h.length ≤ 6) (c0 : C []) (c1 : ∀ a, C [a]) (c2 : ∀ a b, C [a, b]) (c3 : ∀ a b c, C [a, b, c]) (c4 : ∀ a b c d, C [a, b, c, d]) (c5 : ∀ a b c d e, C [a, b, c, d, e]) (c6 : ∀ a b c d e f, C [a, b, c, d, e, f]) : C h := by
 match h, hl with
 | [], _ => exact c0
 | [a], _ => exact c1 a
 | [a, b], _ => exact c2 a b
 | [a, b, c], _ => exact c3 a b c
 | [a, b, c, d], _ => exact c4 a b c d
 | [a, b, c, d, e], _ => exact c5 a b c d e
 | [a, b, c, d, e, f], _ => exact c6 a b c d e f
 | a :: b :: c :: d :: e :: f :: g :: l, hl => simp at hl
def lastI (x : Int) (h : List Int) : Bool := match h.getLast? with | some y => decide (y = x) | none => false
set_option maxRecDepth 100000 in
theorem isLast_0 (w : World) (x : Int) : Calls Tryz.prog 121 #[.agg #[.int .i64 0, .int .i64 0, .int .i64 0, .int .i64 0, .int .i64 0, .int .i64 0, .int .i64 0], .int .i64 x] w fun e w' => e = .returned (.bool (lastI x [])) ∧ Fr no w w' := by
 have F : Fr no w (w.alloc (.cells #[.int .i64 0, .int .i64 0, .int .i64 0, .int .i64 0, .int .i64 0, .int .i64 0, .int .i64 0] 99)) := (Fr.refl no w).alloc _ _
 go_enter Tryz.func121, Tryz.ntmps121
 go_wp2_with fail
 go_ret
 exact ⟨rfl, F⟩
set_option maxRecDepth 100000 in
theorem isLast_1 (w : World) (a : Int) (x : Int) : Calls Tryz.prog 121 #[.agg #[.int .i64 1, .int .i64 a, .int .i64 0, .int .i64 0, .int .i64 0, .int .i64 0, .int .i64 0], .int .i64 x] w fun e w' => e = .returned (.bool (lastI x [a])) ∧ Fr no w w' := by
 have F : Fr no w (w.alloc (.cells #[.int .i64 1, .int .i64 a, .int .i64 0, .int .i64 0, .int .i64 0, .int .i64 0, .int .i64 0] 99)) := (Fr.refl no w).alloc _ _
 have HL : Hid (lastI x [a] = decide (a = x)) := rfl
 go_enter Tryz.func121, Tryz.ntmps121
 go_wp2_with fail
 go_ret
 rw [HL.out]
 exact ⟨by simp [bq], F⟩
set_option maxRecDepth 100000 in
theorem isLast_2 (w : World) (a b : Int) (x : Int) : Calls Tryz.prog 121 #[.agg #[.int .i64 2, .int .i64 a, .int .i64 b, .int .i64 0, .int .i64 0, .int .i64 0, .int .i64 0], .int .i64 x] w fun e w' => e = .returned (.bool (lastI x [a, b])) ∧ Fr no w w' := by
 have F : Fr no w (w.alloc (.cells #[.int .i64 2, .int .i64 a, .int .i64 b, .int .i64 0, .int .i64 0, .int .i64 0, .int .i64 0] 99)) := (Fr.refl no w).alloc _ _
 have HL : Hid (lastI x [a, b] = decide (b = x)) := rfl
 go_enter Tryz.func121, Tryz.ntmps121
 go_wp2_with fail
 go_ret
 rw [HL.out]
 exact ⟨by simp [bq], F⟩
set_option maxRecDepth 100000 in
theorem isLast_3 (w : World) (a b c : Int) (x : Int) : Calls Tryz.prog 121 #[.agg #[.int .i64 3, .int .i64 a, .int .i64 b, .int .i64 c, .int .i64 0, .int .i64 0, .int .i64 0], .int .i64 x] w fun e w' => e = .returned (.bool (lastI x [a, b, c])) ∧ Fr no w w' := by
 have F : Fr no w (w.alloc (.cells #[.int .i64 3, .int .i64 a, .int .i64 b, .int .i64 c, .int .i64 0, .int .i64 0, .int .i64 0] 99)) := (Fr.refl no w).alloc _ _
 have HL : Hid (lastI x [a, b, c] = decide (c = x)) := rfl
 go_enter Tryz.func121, Tryz.ntmps121
 go_wp2_with fail
 go_ret
 rw [HL.out]
 exact ⟨by simp [bq], F⟩
set_option maxRecDepth 100000 in
theorem isLast_4 (w : World) (a b c d : Int) (x : Int) : Calls Tryz.prog 121 #[.agg #[.int .i64 4, .int .i64 a, .int .i64 b, .int .i64 c, .int .i64 d, .int .i64 0, .int .i64 0], .int .i64 x] w fun e w' => e = .returned (.bool (lastI x [a, b, c, d])) ∧ Fr no w w' := by
 have F : Fr no w (w.alloc (.cells #[.int .i64 4, .int .i64 a, .int .i64 b, .int .i64 c, .int .i64 d, .int .i64 0, .int .i64 0] 99)) := (Fr.refl no w).alloc _ _
 have HL : Hid (lastI x [a, b, c, d] = decide (d = x)) := rfl
 go_enter Tryz.func121, Tryz.ntmps121
 go_wp2_with fail
 go_ret
 rw [HL.out]
 exact ⟨by simp [bq], F⟩
set_option maxRecDepth 100000 in
theorem isLast_5 (w : World) (a b c d g : Int) (x : Int) : Calls Tryz.prog 121 #[.agg #[.int .i64 5, .int .i64 a, .int .i64 b, .int .i64 c, .int .i64 d, .int .i64 g, .int .i64 0], .int .i64 x] w fun e w' => e = .returned (.bool (lastI x [a, b, c, d, g])) ∧ Fr no w w' := by
 have F : Fr no w (w.alloc (.cells #[.int .i64 5, .int .i64 a, .int .i64 b, .int .i64 c, .int .i64 d, .int .i64 g, .int .i64 0] 99)) := (Fr.refl no w).alloc _ _
 have HL : Hid (lastI x [a, b, c, d, g] = decide (g = x)) := rfl
 go_enter Tryz.func121, Tryz.ntmps121
 go_wp2_with fail
 go_ret
 rw [HL.out]
 exact ⟨by simp [bq], F⟩
set_option maxRecDepth 100000 in
theorem isLast_6 (w : World) (a b c d g k : Int) (x : Int) : Calls Tryz.prog 121 #[.agg #[.int .i64 6, .int .i64 a, .int .i64 b, .int .i64 c, .int .i64 d, .int .i64 g, .int .i64 k], .int .i64 x] w fun e w' => e = .returned (.bool (lastI x [a, b, c, d, g, k])) ∧ Fr no w w' := by
 have F : Fr no w (w.alloc (.cells #[.int .i64 6, .int .i64 a, .int .i64 b, .int .i64 c, .int .i64 d, .int .i64 g, .int .i64 k] 99)) := (Fr.refl no w).alloc _ _
 have HL : Hid (lastI x [a, b, c, d, g, k] = decide (k = x)) := rfl
 go_enter Tryz.func121, Tryz.ntmps121
 go_wp2_with fail
 go_ret
 rw [HL.out]
 exact ⟨by simp [bq], F⟩
theorem isLast_any (w : World) (h : List Int) (hl : h.length ≤ 6) (x : Int) : Calls Tryz.prog 121 #[hlV h, .int .i64 x] w fun e w' => e = .returned (.bool (lastI x h)) ∧ Fr no w w' :=
 held_cases (C := fun h => Calls Tryz.prog 121 #[hlV h, .int .i64 x] w fun e w' => e = .returned (.bool (lastI x h)) ∧ Fr no w w') h hl (isLast_0 w x) (fun a => isLast_1 w a x) (fun a b => isLast_2 w a b x) (fun a b c => isLast_3 w a b c x) (fun a b c d => isLast_4 w a b c d x) (fun a b c d e => isLast_5 w a b c d e x) (fun a b c d e f => isLast_6 w a b c d e f x)
theorem results_130 (w : World) (r : Nat) (x0 x1 x2 x3 x4 x5 x6 : Value) (h : w.heap[r]? = some (.cells #[x0, x1, x2, x3, x4, x5, x6] 99 (0, 0))) (tmps : Array Value) (h2 : tmps.getD 4 undef = .pointer (some ⟨r, 0, none⟩)) :
 (results Tryz.f120 tmps).run Tryz.prog w = .ok (.agg #[x0, x1, x2, x3, x4, x5, x6]) w := by
 have hl : (loadVar 99 ⟨r, 0, none⟩).run Tryz.prog w = .ok (.agg #[x0, x1, x2, x3, x4, x5, x6]) w := run_loadVar_row (P := Tryz.prog) w r 99 99 #[x0, x1, x2, x3, x4, x5, x6] (0, 0) _ h Tryz.underlying99 rfl (by kernel_rfl)
 have h2' : tmps[4]?.getD undef = .pointer (some ⟨r, 0, none⟩) := by simpa using h2
 simp [results, asAddr, h2', hl]
theorem results_132 (w : World) (r : Nat) (x0 x1 x2 x3 x4 x5 x6 : Value) (h : w.heap[r]? = some (.cells #[x0, x1, x2, x3, x4, x5, x6] 99 (0, 0))) (tmps : Array Value) (h2 : tmps.getD 4 undef = .pointer (some ⟨r, 0, none⟩)) :
 (results Tryz.f122 tmps).run Tryz.prog w = .ok (.agg #[x0, x1, x2, x3, x4, x5, x6]) w := by
 have hl : (loadVar 99 ⟨r, 0, none⟩).run Tryz.prog w = .ok (.agg #[x0, x1, x2, x3, x4, x5, x6]) w := run_loadVar_row (P := Tryz.prog) w r 99 99 #[x0, x1, x2, x3, x4, x5, x6] (0, 0) _ h Tryz.underlying99 rfl (by kernel_rfl)
 have h2' : tmps[4]?.getD undef = .pointer (some ⟨r, 0, none⟩) := by simpa using h2
 simp [results, asAddr, h2', hl]
theorem two_alloc (w : World) (x y : Array Value) : Fr no w ((w.alloc (.cells x 99)).alloc (.cells y 99)) ∧ ((w.alloc (.cells x 99)).alloc (.cells y 99)).heap[w.heap.size + 1]? = some (.cells y 99 (0, 0)) := by
 refine ⟨((Fr.refl no w).alloc _ _).alloc _ _, ?_⟩
 have := heap_alloc_new (w.alloc (.cells x 99)) (.cells y 99)
 rwa [size_alloc] at this
set_option maxRecDepth 100000 in
set_option maxHeartbeats 1000000 in
theorem with_0 (w : World) (x : Int) : Calls Tryz.prog 120 #[.agg #[.int .i64 0, .int .i64 0, .int .i64 0, .int .i64 0, .int .i64 0, .int .i64 0, .int .i64 0], .int .i64 x] w fun e w' => e = .returned (hlV ([] ++ [x])) ∧ Fr no w w' := by
 have T := two_alloc w
 go_enter Tryz.func120, Tryz.ntmps120
 go_wp2_with fail
 exact bodyPost_ret (results_130 _ (w.heap.size + 1) _ _ _ _ _ _ _ (T _ _).2 _ rfl) rfl ⟨rfl, (T _ _).1⟩
set_option maxRecDepth 100000 in
set_option maxHeartbeats 1000000 in
theorem with_1 (w : World) (a : Int) (x : Int) : Calls Tryz.prog 120 #[.agg #[.int .i64 1, .int .i64 a, .int .i64 0, .int .i64 0, .int .i64 0, .int .i64 0, .int .i64 0], .int .i64 x] w fun e w' => e = .returned (hlV ([a] ++ [x])) ∧ Fr no w w' := by
 have T := two_alloc w
 go_enter Tryz.func120, Tryz.ntmps120
 go_wp2_with fail
 exact bodyPost_ret (results_130 _ (w.heap.size + 1) _ _ _ _ _ _ _ (T _ _).2 _ rfl) rfl ⟨rfl, (T _ _).1⟩
set_option maxRecDepth 100000 in
set_option maxHeartbeats 1000000 in
theorem with_2 (w : World) (a b : Int) (x : Int) : Calls Tryz.prog 120 #[.agg #[.int .i64 2, .int .i64 a, .int .i64 b, .int .i64 0, .int .i64 0, .int .i64 0, .int .i64 0], .int .i64 x] w fun e w' => e = .returned (hlV ([a, b] ++ [x])) ∧ Fr no w w' := by
 have T := two_alloc w
 go_enter Tryz.func120, Tryz.ntmps120
 go_wp2_with fail
 exact bodyPost_ret (results_130 _ (w.heap.size + 1) _ _ _ _ _ _ _ (T _ _).2 _ rfl) rfl ⟨rfl, (T _ _).1⟩
set_option maxRecDepth 100000 in
set_option maxHeartbeats 1000000 in
theorem with_3 (w : World) (a b c : Int) (x : Int) : Calls Tryz.prog 120 #[.agg #[.int .i64 3, .int .i64 a, .int .i64 b, .int .i64 c, .int .i64 0, .int .i64 0, .int .i64 0], .int .i64 x] w fun e w' => e = .returned (hlV ([a, b, c] ++ [x])) ∧ Fr no w w' := by
 have T := two_alloc w
 go_enter Tryz.func120, Tryz.ntmps120
 go_wp2_with fail
 exact bodyPost_ret (results_130 _ (w.heap.size + 1) _ _ _ _ _ _ _ (T _ _).2 _ rfl) rfl ⟨rfl, (T _ _).1⟩
set_option maxRecDepth 100000 in
set_option maxHeartbeats 1000000 in
theorem with_4 (w : World) (a b c d : Int) (x : Int) : Calls Tryz.prog 120 #[.agg #[.int .i64 4, .int .i64 a, .int .i64 b, .int .i64 c, .int .i64 d, .int .i64 0, .int .i64 0], .int .i64 x] w fun e w' => e = .returned (hlV ([a, b, c, d] ++ [x])) ∧ Fr no w w' := by
 have T := two_alloc w
 go_enter Tryz.func120, Tryz.ntmps120
 go_wp2_with fail
 exact bodyPost_ret (results_130 _ (w.heap.size + 1) _ _ _ _ _ _ _ (T _ _).2 _ rfl) rfl ⟨rfl, (T _ _).1⟩
set_option maxRecDepth 100000 in
set_option maxHeartbeats 1000000 in
theorem with_5 (w : World) (a b c d g : Int) (x : Int) : Calls Tryz.prog 120 #[.agg #[.int .i64 5, .int .i64 a, .int .i64 b, .int .i64 c, .int .i64 d, .int .i64 g, .int .i64 0], .int .i64 x] w fun e w' => e = .returned (hlV ([a, b, c, d, g] ++ [x])) ∧ Fr no w w' := by
 have T := two_alloc w
 go_enter Tryz.func120, Tryz.ntmps120
 go_wp2_with fail
 exact bodyPost_ret (results_130 _ (w.heap.size + 1) _ _ _ _ _ _ _ (T _ _).2 _ rfl) rfl ⟨rfl, (T _ _).1⟩
theorem with_any (w : World) (h : List Int) (hl : h.length ≤ 5) (x : Int) : Calls Tryz.prog 120 #[hlV h, .int .i64 x] w fun e w' => e = .returned (hlV (h ++ [x])) ∧ Fr no w w' := by
 refine held_cases (C := fun h => h.length ≤ 5 → Calls Tryz.prog 120 #[hlV h, .int .i64 x] w fun e w' => e = .returned (hlV (h ++ [x])) ∧ Fr no w w') h (by omega) (fun _ => with_0 w x) (fun a _ => with_1 w a x) (fun a b _ => with_2 w a b x) (fun a b c _ => with_3 w a b c x) (fun a b c d _ => with_4 w a b c d x) (fun a b c d e _ => with_5 w a b c d e x) (fun a b c d e f h => absurd h (show ¬ 6 ≤ 5 by decide)) hl
theorem setRow_al (w : World) (A B Z : Array Value) : ((w.alloc (.cells A 99)).alloc (.cells Z 99)).setRow w.heap.size B = (w.alloc (.cells B 99)).alloc (.cells Z 99) := by
 unfold World.setRow World.alloc
 simp only [World.mk.injEq, and_true]
 apply Array.ext_getElem?
 intro i
 rw [Array.getElem?_modify, Array.getElem?_push, Array.getElem?_push, Array.getElem?_push, Array.getElem?_push, Array.size_push, Array.size_push]
 by_cases h1 : i = w.heap.size
 · subst h1
   simp
 · by_cases h2 : i = w.heap.size + 1
   · subst h2
     simp
   · simp [h1, h2, Ne.symm h1]
theorem run_clearI (w : World) (g o n cap : Nat) (cur : Array Value) (t ty : TypeId) (hg : w.heap[g]? = some (.cells cur t (0, 0))) (hfit : o + n ≤ cur.size) (hn : n = 1 ∨ n = 2 ∨ n = 3 ∨ n = 4 ∨ n = 5 ∨ n = 6) :
 (Builtin.clear_ #[25] ty #[.slice (some ⟨g, o, none⟩) n cap]).run Tryz.prog w = .ok (.tuple #[]) (w.setRow g (cur.toList.take o ++ List.replicate n (Value.int .i64 0) ++ cur.toList.drop (o + n)).toArray) := by
 have hst := run_storeCells_at Tryz.prog g o t (List.replicate n (Value.int .i64 0)) 0 cur w hg (by simpa using hfit) (by intro v hv; rw [(List.mem_replicate.1 hv).2]; rfl)
 have hz : (zeroValue 3).run Tryz.prog w = .ok (.int .i64 0) w := by kernel_rfl
 have hc : (Builtin.zeroCells (Value.cells (.int .i64 0)) n).toList = List.replicate n (Value.int .i64 0) := by rcases hn with rfl | rfl | rfl | rfl | rfl | rfl <;> kernel_rfl
 obtain ⟨m, rfl⟩ : ∃ m, n = m + 1 := ⟨n - 1, by omega⟩
 simp only [List.length_replicate, Nat.add_zero] at hst
 simp [Builtin.clear_, run_underlying Tryz.underlying25, hz, hc, hst]
set_option maxRecDepth 100000 in
set_option maxHeartbeats 1000000 in
theorem first_1 (w : World) (a : Int) : Calls Tryz.prog 122 #[.agg #[.int .i64 1, .int .i64 a, .int .i64 0, .int .i64 0, .int .i64 0, .int .i64 0, .int .i64 0], .int .i64 0] w fun e w' => e = .returned (hlV []) ∧ Fr no w w' := by
 have T := two_alloc w
 have SL : ∀ W : World, (Instr.sliceAt 97 (.pointer (some ⟨w.heap.size, 1, none⟩)) (some (.int .i64 0)) none none).run Tryz.prog W = .ok (.slice (some ⟨w.heap.size, 1, none⟩) 6 6) W := fun W => by kernel_rfl
 have CL : ∀ ty, (Builtin.clear_ #[25] ty #[.slice (some ⟨w.heap.size, 1, none⟩) 6 6]).run Tryz.prog ((w.alloc (.cells #[.int .i64 1, .int .i64 a, .int .i64 0, .int .i64 0, .int .i64 0, .int .i64 0, .int .i64 0] 99)).alloc (.cells #[.int .i64 0, .int .i64 0, .int .i64 0, .int .i64 0, .int .i64 0, .int .i64 0, .int .i64 0] 99)) = .ok (.tuple #[]) ((w.alloc (.cells #[.int .i64 1, .int .i64 0, .int .i64 0, .int .i64 0, .int .i64 0, .int .i64 0, .int .i64 0] 99)).alloc (.cells #[.int .i64 0, .int .i64 0, .int .i64 0, .int .i64 0, .int .i64 0, .int .i64 0, .int .i64 0] 99)) := fun ty => by
  have := run_clearI ((w.alloc (.cells #[.int .i64 1, .int .i64 a, .int .i64 0, .int .i64 0, .int .i64 0, .int .i64 0, .int .i64 0] 99)).alloc (.cells #[.int .i64 0, .int .i64 0, .int .i64 0, .int .i64 0, .int .i64 0, .int .i64 0, .int .i64 0] 99)) w.heap.size 1 6 6 #[.int .i64 1, .int .i64 a, .int .i64 0, .int .i64 0, .int .i64 0, .int .i64 0, .int .i64 0] 99 ty (((Fr.refl no _).alloc _ _).heap (heap_alloc_new w _) (fun f => f)) (by simp) (by decide)
  rw [this, setRow_al]
  rfl
 go_enter Tryz.func122, Tryz.ntmps122
 go_wp2_with fail
 exact bodyPost_ret (results_132 _ (w.heap.size + 1) _ _ _ _ _ _ _ (T _ _).2 _ rfl) rfl ⟨rfl, (T _ _).1⟩
set_option maxRecDepth 100000 in
set_option maxHeartbeats 1000000 in
theorem first_2 (w : World) (a b : Int) : Calls Tryz.prog 122 #[.agg #[.int .i64 2, .int .i64 a, .int .i64 b, .int .i64 0, .int .i64 0, .int .i64 0, .int .i64 0], .int .i64 1] w fun e w' => e = .returned (hlV [a]) ∧ Fr no w w' := by
 have T := two_alloc w
 have SL : ∀ W : World, (Instr.sliceAt 97 (.pointer (some ⟨w.heap.size, 1, none⟩)) (some (.int .i64 1)) none none).run Tryz.prog W = .ok (.slice (some ⟨w.heap.size, 2, none⟩) 5 5) W := fun W => by kernel_rfl
 have CL : ∀ ty, (Builtin.clear_ #[25] ty #[.slice (some ⟨w.heap.size, 2, none⟩) 5 5]).run Tryz.prog ((w.alloc (.cells #[.int .i64 2, .int .i64 a, .int .i64 b, .int .i64 0, .int .i64 0, .int .i64 0, .int .i64 0] 99)).alloc (.cells #[.int .i64 0, .int .i64 0, .int .i64 0, .int .i64 0, .int .i64 0, .int .i64 0, .int .i64 0] 99)) = .ok (.tuple #[]) ((w.alloc (.cells #[.int .i64 2, .int .i64 a, .int .i64 0, .int .i64 0, .int .i64 0, .int .i64 0, .int .i64 0] 99)).alloc (.cells #[.int .i64 0, .int .i64 0, .int .i64 0, .int .i64 0, .int .i64 0, .int .i64 0, .int .i64 0] 99)) := fun ty => by
  have := run_clearI ((w.alloc (.cells #[.int .i64 2, .int .i64 a, .int .i64 b, .int .i64 0, .int .i64 0, .int .i64 0, .int .i64 0] 99)).alloc (.cells #[.int .i64 0, .int .i64 0, .int .i64 0, .int .i64 0, .int .i64 0, .int .i64 0, .int .i64 0] 99)) w.heap.size 2 5 5 #[.int .i64 2, .int .i64 a, .int .i64 b, .int .i64 0, .int .i64 0, .int .i64 0, .int .i64 0] 99 ty (((Fr.refl no _).alloc _ _).heap (heap_alloc_new w _) (fun f => f)) (by simp) (by decide)
  rw [this, setRow_al]
  rfl
 go_enter Tryz.func122, Tryz.ntmps122
 go_wp2_with fail
 exact bodyPost_ret (results_132 _ (w.heap.size + 1) _ _ _ _ _ _ _ (T _ _).2 _ rfl) rfl ⟨rfl, (T _ _).1⟩
set_option maxRecDepth 100000 in
set_option maxHeartbeats 1000000 in
theorem first_3 (w : World) (a b c : Int) : Calls Tryz.prog 122 #[.agg #[.int .i64 3, .int .i64 a, .int .i64 b, .int .i64 c, .int .i64 0, .int .i64 0, .int .i64 0], .int .i64 2] w fun e w' => e = .returned (hlV [a, b]) ∧ Fr no w w' := by
 have T := two_alloc w
 have SL : ∀ W : World, (Instr.sliceAt 97 (.pointer (some ⟨w.heap.size, 1, none⟩)) (some (.int .i64 2)) none none).run Tryz.prog W = .ok (.slice (some ⟨w.heap.size, 3, none⟩) 4 4) W := fun W => by kernel_rfl
 have CL : ∀ ty, (Builtin.clear_ #[25] ty #[.slice (some ⟨w.heap.size, 3, none⟩) 4 4]).run Tryz.prog ((w.alloc (.cells #[.int .i64 3, .int .i64 a, .int .i64 b, .int .i64 c, .int .i64 0, .int .i64 0, .int .i64 0] 99)).alloc (.cells #[.int .i64 0, .int .i64 0, .int .i64 0, .int .i64 0, .int .i64 0, .int .i64 0, .int .i64 0] 99)) = .ok (.tuple #[]) ((w.alloc (.cells #[.int .i64 3, .int .i64 a, .int .i64 b, .int .i64 0, .int .i64 0, .int .i64 0, .int .i64 0] 99)).alloc (.cells #[.int .i64 0, .int .i64 0, .int .i64 0, .int .i64 0, .int .i64 0, .int .i64 0, .int .i64 0] 99)) := fun ty => by
  have := run_clearI ((w.alloc (.cells #[.int .i64 3, .int .i64 a, .int .i64 b, .int .i64 c, .int .i64 0, .int .i64 0, .int .i64 0] 99)).alloc (.cells #[.int .i64 0, .int .i64 0, .int .i64 0, .int .i64 0, .int .i64 0, .int .i64 0, .int .i64 0] 99)) w.heap.size 3 4 4 #[.int .i64 3, .int .i64 a, .int .i64 b, .int .i64 c, .int .i64 0, .int .i64 0, .int .i64 0] 99 ty (((Fr.refl no _).alloc _ _).heap (heap_alloc_new w _) (fun f => f)) (by simp) (by decide)
  rw [this, setRow_al]
  rfl
 go_enter Tryz.func122, Tryz.ntmps122
 go_wp2_with fail
 exact bodyPost_ret (results_132 _ (w.heap.size + 1) _ _ _ _ _ _ _ (T _ _).2 _ rfl) rfl ⟨rfl, (T _ _).1⟩
set_option maxRecDepth 100000 in
set_option maxHeartbeats 1000000 in
theorem first_4 (w : World) (a b c d : Int) : Calls Tryz.prog 122 #[.agg #[.int .i64 4, .int .i64 a, .int .i64 b, .int .i64 c, .int .i64 d, .int .i64 0, .int .i64 0], .int .i64 3] w fun e w' => e = .returned (hlV [a, b, c]) ∧ Fr no w w' := by
 have T := two_alloc w
 have SL : ∀ W : World, (Instr.sliceAt 97 (.pointer (some ⟨w.heap.size, 1, none⟩)) (some (.int .i64 3)) none none).run Tryz.prog W = .ok (.slice (some ⟨w.heap.size, 4, none⟩) 3 3) W := fun W => by kernel_rfl
 have CL : ∀ ty, (Builtin.clear_ #[25] ty #[.slice (some ⟨w.heap.size, 4, none⟩) 3 3]).run Tryz.prog ((w.alloc (.cells #[.int .i64 4, .int .i64 a, .int .i64 b, .int .i64 c, .int .i64 d, .int .i64 0, .int .i64 0] 99)).alloc (.cells #[.int .i64 0, .int .i64 0, .int .i64 0, .int .i64 0, .int .i64 0, .int .i64 0, .int .i64 0] 99)) = .ok (.tuple #[]) ((w.alloc (.cells #[.int .i64 4, .int .i64 a, .int .i64 b, .int .i64 c, .int .i64 0, .int .i64 0, .int .i64 0] 99)).alloc (.cells #[.int .i64 0, .int .i64 0, .int .i64 0, .int .i64 0, .int .i64 0, .int .i64 0, .int .i64 0] 99)) := fun ty => by
  have := run_clearI ((w.alloc (.cells #[.int .i64 4, .int .i64 a, .int .i64 b, .int .i64 c, .int .i64 d, .int .i64 0, .int .i64 0] 99)).alloc (.cells #[.int .i64 0, .int .i64 0, .int .i64 0, .int .i64 0, .int .i64 0, .int .i64 0, .int .i64 0] 99)) w.heap.size 4 3 3 #[.int .i64 4, .int .i64 a, .int .i64 b, .int .i64 c, .int .i64 d, .int .i64 0, .int .i64 0] 99 ty (((Fr.refl no _).alloc _ _).heap (heap_alloc_new w _) (fun f => f)) (by simp) (by decide)
  rw [this, setRow_al]
  rfl
 go_enter Tryz.func122, Tryz.ntmps122
 go_wp2_with fail
 exact bodyPost_ret (results_132 _ (w.heap.size + 1) _ _ _ _ _ _ _ (T _ _).2 _ rfl) rfl ⟨rfl, (T _ _).1⟩
set_option maxRecDepth 100000 in
set_option maxHeartbeats 1000000 in
theorem first_5 (w : World) (a b c d g : Int) : Calls Tryz.prog 122 #[.agg #[.int .i64 5, .int .i64 a, .int .i64 b, .int .i64 c, .int .i64 d, .int .i64 g, .int .i64 0], .int .i64 4] w fun e w' => e = .returned (hlV [a, b, c, d]) ∧ Fr no w w' := by
 have T := two_alloc w
 have SL : ∀ W : World, (Instr.sliceAt 97 (.pointer (some ⟨w.heap.size, 1, none⟩)) (some (.int .i64 4)) none none).run Tryz.prog W = .ok (.slice (some ⟨w.heap.size, 5, none⟩) 2 2) W := fun W => by kernel_rfl
 have CL : ∀ ty, (Builtin.clear_ #[25] ty #[.slice (some ⟨w.heap.size, 5, none⟩) 2 2]).run Tryz.prog ((w.alloc (.cells #[.int .i64 5, .int .i64 a, .int .i64 b, .int .i64 c, .int .i64 d, .int .i64 g, .int .i64 0] 99)).alloc (.cells #[.int .i64 0, .int .i64 0, .int .i64 0, .int .i64 0, .int .i64 0, .int .i64 0, .int .i64 0] 99)) = .ok (.tuple #[]) ((w.alloc (.cells #[.int .i64 5, .int .i64 a, .int .i64 b, .int .i64 c, .int .i64 d, .int .i64 0, .int .i64 0] 99)).alloc (.cells #[.int .i64 0, .int .i64 0, .int .i64 0, .int .i64 0, .int .i64 0, .int .i64 0, .int .i64 0] 99)) := fun ty => by
  have := run_clearI ((w.alloc (.cells #[.int .i64 5, .int .i64 a, .int .i64 b, .int .i64 c, .int .i64 d, .int .i64 g, .int .i64 0] 99)).alloc (.cells #[.int .i64 0, .int .i64 0, .int .i64 0, .int .i64 0, .int .i64 0, .int .i64 0, .int .i64 0] 99)) w.heap.size 5 2 2 #[.int .i64 5, .int .i64 a, .int .i64 b, .int .i64 c, .int .i64 d, .int .i64 g, .int .i64 0] 99 ty (((Fr.refl no _).alloc _ _).heap (heap_alloc_new w _) (fun f => f)) (by simp) (by decide)
  rw [this, setRow_al]
  rfl
 go_enter Tryz.func122, Tryz.ntmps122
 go_wp2_with fail
 exact bodyPost_ret (results_132 _ (w.heap.size + 1) _ _ _ _ _ _ _ (T _ _).2 _ rfl) rfl ⟨rfl, (T _ _).1⟩
set_option maxRecDepth 100000 in
set_option maxHeartbeats 1000000 in
theorem first_6 (w : World) (a b c d g k : Int) : Calls Tryz.prog 122 #[.agg #[.int .i64 6, .int .i64 a, .int .i64 b, .int .i64 c, .int .i64 d, .int .i64 g, .int .i64 k], .int .i64 5] w fun e w' => e = .returned (hlV [a, b, c, d, g]) ∧ Fr no w w' := by
 have T := two_alloc w
 have SL : ∀ W : World, (Instr.sliceAt 97 (.pointer (some ⟨w.heap.size, 1, none⟩)) (some (.int .i64 5)) none none).run Tryz.prog W = .ok (.slice (some ⟨w.heap.size, 6, none⟩) 1 1) W := fun W => by kernel_rfl
 have CL : ∀ ty, (Builtin.clear_ #[25] ty #[.slice (some ⟨w.heap.size, 6, none⟩) 1 1]).run Tryz.prog ((w.alloc (.cells #[.int .i64 6, .int .i64 a, .int .i64 b, .int .i64 c, .int .i64 d, .int .i64 g, .int .i64 k] 99)).alloc (.cells #[.int .i64 0, .int .i64 0, .int .i64 0, .int .i64 0, .int .i64 0, .int .i64 0, .int .i64 0] 99)) = .ok (.tuple #[]) ((w.alloc (.cells #[.int .i64 6, .int .i64 a, .int .i64 b, .int .i64 c, .int .i64 d, .int .i64 g, .int .i64 0] 99)).alloc (.cells #[.int .i64 0, .int .i64 0, .int .i64 0, .int .i64 0, .int .i64 0, .int .i64 0, .int .i64 0] 99)) := fun ty => by
  have := run_clearI ((w.alloc (.cells #[.int .i64 6, .int .i64 a, .int .i64 b, .int .i64 c, .int .i64 d, .int .i64 g, .int .i64 k] 99)).alloc (.cells #[.int .i64 0, .int .i64 0, .int .i64 0, .int .i64 0, .int .i64 0, .int .i64 0, .int .i64 0] 99)) w.heap.size 6 1 1 #[.int .i64 6, .int .i64 a, .int .i64 b, .int .i64 c, .int .i64 d, .int .i64 g, .int .i64 k] 99 ty (((Fr.refl no _).alloc _ _).heap (heap_alloc_new w _) (fun f => f)) (by simp) (by decide)
  rw [this, setRow_al]
  rfl
 go_enter Tryz.func122, Tryz.ntmps122
 go_wp2_with fail
 exact bodyPost_ret (results_132 _ (w.heap.size + 1) _ _ _ _ _ _ _ (T _ _).2 _ rfl) rfl ⟨rfl, (T _ _).1⟩
theorem first_any (w : World) (h : List Int) (hl : h.length ≤ 6) (h0 : 0 < h.length) : Calls Tryz.prog 122 #[hlV h, .int .i64 ((h.length : Int) - 1)] w fun e w' => e = .returned (hlV h.dropLast) ∧ Fr no w w' := by
 refine held_cases (C := fun h => 0 < h.length → Calls Tryz.prog 122 #[hlV h, .int .i64 ((h.length : Int) - 1)] w fun e w' => e = .returned (hlV h.dropLast) ∧ Fr no w w') h hl (fun h => absurd h (by decide)) (fun a _ => first_1 w a) (fun a b _ => first_2 w a b) (fun a b c _ => first_3 w a b c) (fun a b c d _ => first_4 w a b c d) (fun a b c d e _ => first_5 w a b c d e) (fun a b c d e f _ => first_6 w a b c d e f) h0
end Go.Proofs.YtalgjpmaafooeaaGreatDoor
