/- New classes: the document's answer. -/
import Derived.Test.YtabiagheflkiaaaPig
import Derived.Test.YtabiagheflkiaaaTwo
import Derived.Test.YtabiagheflkiaaaLate
namespace Go.Proofs.Ytabiagheflkiaaa
open Go.ChangeShapes Go.WideShapes Go.ChangeAt Go.RowKit

/-- The answer in memory: no classes with a fault; else they are there. -/
def DocAt (w' : World) (supers : List ByteArray) (r : Int × List ByteArray × List Nat) (q : Option Addr) : Prop :=
  (r.1 ≠ 0 → q = none) ∧ (r.1 = 0 → ∃ p, q = some ⟨p, 0, none⟩ ∧ RC w' p r.2.1 (supS supers) r.2.2)

theorem rn_begin (w : World) :
    RN w.heap.size (((w.alloc (.cells #[.string obj, .string fault] 9)).alloc (.cells #[.string ByteArray.empty, .string obj] 9)).alloc (.cells #[.slice (some ⟨w.heap.size, 0, none⟩) 2 2, .slice (some ⟨w.heap.size + 1, 0, none⟩) 2 2] 37)) (w.heap.size + 1 + 1)
      (.slice (some ⟨w.heap.size, 0, none⟩) 2 2) (.slice (some ⟨w.heap.size + 1, 0, none⟩) 2 2) [obj, fault] [ByteArray.empty, obj] := by
  have o1 : OwnG elS (w.alloc (.cells #[.string obj, .string fault] 9)) (.slice (some ⟨w.heap.size, 0, none⟩) 2 2) [obj, fault] := own_lit (K := elS) w [obj, fault] _ rfl (by unfold maxLen; simp)
  have e1 : (w.alloc (.cells #[.string obj, .string fault] 9)).heap.size = w.heap.size + 1 := by simp
  have o2 : OwnG elS ((w.alloc (.cells #[.string obj, .string fault] 9)).alloc (.cells #[.string ByteArray.empty, .string obj] 9)) (.slice (some ⟨w.heap.size + 1, 0, none⟩) 2 2) [ByteArray.empty, obj] := by
    have := own_lit (K := elS) (w.alloc (.cells #[.string obj, .string fault] 9)) [ByteArray.empty, obj] #[.string ByteArray.empty, .string obj] rfl (by unfold maxLen; simp)
    rw [e1] at this
    exact this
  have e2 : ((w.alloc (.cells #[.string obj, .string fault] 9)).alloc (.cells #[.string ByteArray.empty, .string obj] 9)).heap.size = w.heap.size + 1 + 1 := by simp
  refine ⟨?_, (o1.keep ((Fr.refl no _).alloc _ _)).keep ((Fr.refl no _).alloc _ _), o2.keep ((Fr.refl no _).alloc _ _), by omega, ?_, ?_, ?_⟩
  · rw [← e2]; exact heap_alloc_new _ _
  · intro k hk; simp [Value.ownBlock] at hk; omega
  · intro k hk; simp [Value.ownBlock] at hk; omega
  · intro k hk e; simp [Value.ownBlock] at hk e; omega

theorem RN.rb {c : Nat} {w : World} {p : Nat} {vn vs : Value} {M T : List ByteArray} (h : RN c w p vn vs M T) : RB w p M T := ⟨vn, vs, h.cells, h.one, h.two⟩

theorem cells2z {w : World} {r : Nat} {x y : Value} {t : TypeId} (h : w.heap[r]? = some (.cells #[x, y] t (0, 0))) :
    w.cell? ⟨r, 0, none⟩ = some x ∧ w.cell? ⟨r, 1, none⟩ = some y ∧ w.frozen? ⟨r, 0, none⟩ = false ∧ w.frozen? ⟨r, 1, none⟩ = false := by
  refine ⟨?_, ?_, ?_, ?_⟩ <;> simp [World.cell?, World.frozen?, h]

theorem la {w wr : World} {p : Nat} {on os : Option Addr} {cn ml cs tl : Nat} {M T : List ByteArray} (h : RN w.heap.size wr p (.slice on ml cn) (.slice os tl cs) M T) (hf : Fr no w wr) (x sv : ByteArray) (Wa : World) (fa : Fr no wr Wa) :
    OwnG elS Wa (.slice on ml cn) M ∧ ∀ v' w2, OwnG elS w2 v' (M ++ [x]) → Sp (.slice on ml cn) Wa v' w2 → ∃ ov q cv, v' = .slice ov q cv ∧ w2.cell? ⟨p, 0, none⟩ = some (.slice on ml cn) ∧ w2.cell? ⟨p, 1, none⟩ = some (.slice os tl cs) ∧
      (∀ (b : Nat) (z : Obj), Wa.heap[b]? = some z → wr.heap.size ≤ b → w2.heap[b]? = some z) ∧ Hid (Fr no w w2) ∧
      (∀ Wb, Fr no w2 Wb → Hid (OwnG elS Wb (.slice os tl cs) T) ∧ Hid (∀ u' w3, OwnG elS w3 u' (T ++ [sv]) → Sp (.slice os tl cs) Wb u' w3 → ∃ ou r cu, u' = .slice ou r cu ∧ w3.cell? ⟨p, 0, none⟩ = some (.slice on ml cn) ∧ w3.cell? ⟨p, 1, none⟩ = some (.slice os tl cs) ∧ w3.frozen? ⟨p, 0, none⟩ = false ∧ (w3.setCell ⟨p, 0, none⟩ v').cell? ⟨p, 1, none⟩ = some (.slice os tl cs) ∧ (w3.setCell ⟨p, 0, none⟩ v').frozen? ⟨p, 1, none⟩ = false ∧ Hid (Fr no w w3) ∧
        Hid (RN w.heap.size ((w3.setCell ⟨p, 0, none⟩ v').setCell ⟨p, 1, none⟩ u') p v' u' (M ++ [x]) (T ++ [sv])) ∧ Hid (Fr no w ((w3.setCell ⟨p, 0, none⟩ v').setCell ⟨p, 1, none⟩ u')))) := by
  refine ⟨(h.keep fa).one, fun v' w2 o2 s2 => ?_⟩
  obtain ⟨ov, cv, e⟩ := o2.form
  obtain ⟨k1, k2, k3, k4, k5⟩ := h.mid fa hf.size s2
  refine ⟨ov, _, cv, e, (cells2 k1).1, (cells2 k1).2, fun b z hb hle => s2.1.heap hb (fun e => by have := h.one.lt e; omega), hf.fresh k3, fun Wb fb => ⟨k2.keep fb, fun u' w3 o3 s3 => ?_⟩⟩
  obtain ⟨ou, cu, e3⟩ := o3.form
  obtain ⟨p3, r3, f3⟩ := h.fin fa hf.size s2 o2 fb s3 o3
  obtain ⟨c0, c1, z0, z1⟩ := cells2z p3
  obtain ⟨-, y1, -, y3⟩ := cells2z (set_one (u := v') p3)
  exact ⟨ou, _, cu, e3, c0, c1, z0, y1, y3, hf.fresh (k3.trans (fb.trans s3.1 (U := From w.heap.size) (fun _ _ f => f.elim) (fun i _ e => h.new2 i e)) (fun _ _ f => f) (fun _ _ f => f)), r3, hf.fresh f3⟩

/-- An append of texts, by a name of its own. -/
def app (v x : Value) := Builtin.append_ #[22, 22] 22 #[v, x]
theorem app_eq (v x : Value) : Builtin.append_ #[22, 22] 22 #[v, x] = app v x := rfl

theorem heap_push (w : World) (o : Obj) : (w.alloc o).drew.heap[w.heap.size]? = some o := heap_alloc_new w o
theorem heap_push1 (w : World) (c d : Array Value) (t u : TypeId) : ((w.alloc (.cells c t)).alloc (.cells d u)).drew.heap[w.heap.size]? = some (.cells c t (0, 0)) :=
  ((Fr.refl no (w.alloc (.cells c t))).alloc d u).heap (heap_alloc_new w _) (fun f => f)
theorem heap_push2 (w : World) (c d : Array Value) (t u : TypeId) : ((w.alloc (.cells c t)).alloc (.cells d u)).drew.heap[w.heap.size + 1]? = some (.cells d u (0, 0)) := by
  have h := heap_alloc_new (w.alloc (.cells c t)) (.cells d u)
  have e : (w.alloc (.cells c t)).heap.size = w.heap.size + 1 := by simp
  rw [e] at h
  exact h

/-! What the operations of the region yield. -/
section
variable {o : Oper} {a : Act} {w : World}
theorem ev_move (x : Nat) (v : Value) (ho : o.op = .move (.tmp x)) (hx : a.eval (.tmp x) = v) : (execOp a.eval o).run Try.prog w = .ok (.value v) w := by
  unfold execOp; simp [ho, hx]
theorem ev_nil (x : Nat) (q : Addr) (ho : o.op = .nilCheck (.tmp x)) (hx : a.eval (.tmp x) = .pointer (some q)) : (execOp a.eval o).run Try.prog w = .ok (.value (.pointer (some q))) w := by
  unfold execOp; rw [ho]; simp only [hx]; simp [go_sem]
theorem ev_field0 (x p : Nat) (ho : o.op = .fieldAddr 37 (.tmp x) 0) (hx : a.eval (.tmp x) = .pointer (some ⟨p, 0, none⟩)) : (execOp a.eval o).run Try.prog w = .ok (.value (.pointer (some ⟨p, 0, none⟩))) w := by
  have hr : (Instr.fieldAt 37 (.pointer (some ⟨p, 0, none⟩)) 0).run Try.prog w = .ok (.pointer (some ⟨p, 0, none⟩)) w := by kernel_rfl
  unfold execOp; simp [ho, hx, hr]
theorem ev_field1 (x p : Nat) (ho : o.op = .fieldAddr 37 (.tmp x) 1) (hx : a.eval (.tmp x) = .pointer (some ⟨p, 0, none⟩)) : (execOp a.eval o).run Try.prog w = .ok (.value (.pointer (some ⟨p, 1, none⟩))) w := by
  have hr : (Instr.fieldAt 37 (.pointer (some ⟨p, 0, none⟩)) 1).run Try.prog w = .ok (.pointer (some ⟨p, 1, none⟩)) w := by kernel_rfl
  unfold execOp; simp [ho, hx, hr]
theorem ev_load22 (x : Nat) (ad : Addr) (v : Value) (ho : o.op = .load 22 (.tmp x)) (hx : a.eval (.tmp x) = .pointer (some ad)) (hc : w.cell? ad = some v) : (execOp a.eval o).run Try.prog w = .ok (.value v) w := by
  have hr : (Instr.loadAt 22 (.pointer (some ad))).run Try.prog w = .ok v w := by simp [go_sem, hc]
  unfold execOp; simp [ho, hx, hr]
theorem ev_load9 (x : Nat) (ad : Addr) (v : Value) (ho : o.op = .load 9 (.tmp x)) (hx : a.eval (.tmp x) = .pointer (some ad)) (hc : w.cell? ad = some v) : (execOp a.eval o).run Try.prog w = .ok (.value v) w := by
  have hr : (Instr.loadAt 9 (.pointer (some ad))).run Try.prog w = .ok v w := by simp [go_sem, hc]
  unfold execOp; simp [ho, hx, hr]
theorem ev_index (x y b off n c k : Nat) (ho : o.op = .indexAddr 22 (.tmp x) (.tmp y)) (hx : a.eval (.tmp x) = .slice (some ⟨b, off, none⟩) n c) (hy : a.eval (.tmp y) = .int .i64 (k : Int)) (hk : (k : Int) < (n : Int)) : (execOp a.eval o).run Try.prog w = .ok (.value (.pointer (some ⟨b, off + k, none⟩))) w := by
  have h0 : (0 : Int) ≤ (k : Int) := by omega
  unfold execOp; rw [ho]; simp only [hx, hy]; simp [go_sem, hk, h0]
theorem ev_build (x : Nat) (t : ByteArray) (N : Nat) (hN : w.heap.size = N) (ho : o.op = .buildSlice 22 1 #[(0, .tmp x)]) (hx : a.eval (.tmp x) = .string t) : (execOp a.eval o).run Try.prog w = .ok (.value (.slice (some ⟨N, 0, none⟩) 1 1)) (w.alloc (.cells #[.string t] 9)) := by
  subst hN
  unfold execOp; rw [ho]; simp only [List.map_toArray, List.map_cons, List.map_nil, hx]; simp [go_sem]
theorem ev_append (x y : Nat) (v u v' : Value) (w' : World) (ht : o.type = 22) (ho : o.op = Op.call { callee := Callee.builtin Builtin.append, args := #[.tmp x, .tmp y], argTypes := #[22, 22] }) (hx : a.eval (.tmp x) = v) (hy : a.eval (.tmp y) = u) (hr : (Builtin.append_ #[22, 22] 22 #[v, u]).run Try.prog w = .ok v' w') : (execOp a.eval o).run Try.prog w = .ok (.value v') w' := by
  unfold execOp; simp [ho, ht, hx, hy, resolve, invoke, builtin, hr, Result.andThen]
theorem ev_store (x y : Nat) (ad : Addr) (v : Value) (ou : Option Addr) (r cu : Nat) (ho : o.op = .store 22 (.tmp x) (.tmp y)) (hx : a.eval (.tmp x) = .pointer (some ad)) (hy : a.eval (.tmp y) = .slice ou r cu) (hc : w.cell? ad = some v) (hz : w.frozen? ad = false) : (execOp a.eval o).run Try.prog w = .ok .skip (w.setCell ad (.slice ou r cu)) := by
  unfold execOp; rw [ho]; simp only [hx, hy]; simp [go_sem, hc, hz]
end

set_option maxRecDepth 100000 in
set_option maxHeartbeats 4000000 in
theorem docNew_any (w : World) (v1 v2 : Value) (names supers : List ByteArray) (h1 : SlG elS w v1 names) (h2 : SlG elS w v2 supers) (s1 : ∀ x ∈ names, x.size ≤ 1099511627776) (b1 : names.length ≤ 1000000) (b2 : supers.length ≤ 1000000) :
    Calls Try.prog 12 #[v1, v2] w fun e w' => ∃ q, e = .returned (.tuple #[.pointer q, .int .i64 (newH names supers).1]) ∧ DocAt w' supers (newH names supers) q ∧ Fr no w w' := by
  have H1 : Hid (SlG elS w v1 names) := h1
  have H2 : Hid (SlG elS w v2 supers) := h2
  obtain ⟨o1, c1, rfl, hc1, hm1, -⟩ := h1
  obtain ⟨o2, c2, rfl, hc2, hm2, -⟩ := h2
  unfold maxLen at hm1 hm2
  by_cases hl : names.length = supers.length
  case neg =>
    have HN : Hid (newH names supers = (50, [], [])) := by show _ = _; unfold newH; rw [if_pos hl]
    have hq : ((names.length : Int) == (supers.length : Int)) = false := by simp; omega
    clear H1 H2 s1
    go_enter Try.func12, Try.ntmps12
    go_wp2_with fail
    go_ret2
    rw [HN.out]
    exact ⟨_, rfl, ⟨fun _ => rfl, fun h => by simp at h⟩, Fr.refl _ _⟩
  by_cases hb : 16 < names.length
  · have HN : Hid (newH names supers = (32, [], [])) := by show _ = _; unfold newH; rw [if_neg (by omega), if_pos hb]
    rw [← hl]
    generalize names.length = n at *
    clear H1 H2 s1
    go_enter Try.func12, Try.ntmps12
    go_wp2_with fail
    go_ret2
    rw [HN.out]
    exact ⟨_, rfl, ⟨fun _ => rfl, fun h => by simp at h⟩, Fr.refl _ _⟩
  have E : newH names supers = (if (addN [obj, fault] names).1 ≠ 0 then ((addN [obj, fault] names).1, [], [])
      else if (addS (addN [obj, fault] names).2 [0, 0] supers).1 ≠ 0 then ((addS (addN [obj, fault] names).2 [0, 0] supers).1, [], [])
      else if ring (addN [obj, fault] names).2.length (addS (addN [obj, fault] names).2 [0, 0] supers).2 = true then (71, [], [])
      else (0, (addN [obj, fault] names).2, (addS (addN [obj, fault] names).2 [0, 0] supers).2)) := by
    unfold newH; rw [if_neg (by omega), if_neg hb]
  have HE : Hid (newH names supers = (if (addN [obj, fault] names).1 ≠ 0 then ((addN [obj, fault] names).1, [], [])
      else if (addS (addN [obj, fault] names).2 [0, 0] supers).1 ≠ 0 then ((addS (addN [obj, fault] names).2 [0, 0] supers).1, [], [])
      else if ring (addN [obj, fault] names).2.length (addS (addN [obj, fault] names).2 [0, 0] supers).2 = true then (71, [], [])
      else (0, (addN [obj, fault] names).2, (addS (addN [obj, fault] names).2 [0, 0] supers).2))) := E
  have HS1 : Hid (∀ x ∈ names, x.size ≤ 1099511627776) := s1
  have HL : Hid (names.length = supers.length) := hl
  have hb2 : names.length ≤ 16 := by omega
  clear E s1
  rw [← hl] at hc2 ⊢
  clear hl hb
  generalize hn : names.length = n at *
  have RB0 : Hid (RN w.heap.size (((w.alloc (.cells #[.string obj, .string fault] 9)).alloc (.cells #[.string ByteArray.empty, .string obj] 9)).alloc (.cells #[.slice (some ⟨w.heap.size, 0, none⟩) 2 2, .slice (some ⟨w.heap.size + 1, 0, none⟩) 2 2] 37)) (w.heap.size + 1 + 1)
      (.slice (some ⟨w.heap.size, 0, none⟩) 2 2) (.slice (some ⟨w.heap.size + 1, 0, none⟩) 2 2) [obj, fault] [ByteArray.empty, obj]) := rn_begin w
  have FR0 : Hid (Fr no w (((w.alloc (.cells #[.string obj, .string fault] 9)).alloc (.cells #[.string ByteArray.empty, .string obj] 9)).alloc (.cells #[.slice (some ⟨w.heap.size, 0, none⟩) 2 2, .slice (some ⟨w.heap.size + 1, 0, none⟩) 2 2] 37))) := (((Fr.refl no w).alloc _ _).alloc _ _).alloc _ _
  obtain ⟨p, hp⟩ : ∃ p, p = w.heap.size + 1 + 1 := ⟨_, rfl⟩
  rw [← hp] at RB0
  have HP : Hid (p = w.heap.size + 1 + 1) := hp
  clear hp
  go_enter Try.func12, Try.ntmps12
  go_wp2_with fail
  rw [← HP.out]
  go_loopw [7] (fun i wr => ∃ (k : Nat) (M T : List ByteArray) (vn vs : Value), i = .int .i64 (k : Int) ∧ k ≤ n ∧ RN w.heap.size wr p vn vs M T ∧ Fr no w wr ∧ addN [obj, fault] names = addN M (names.drop k) ∧ M.length = 2 + k ∧ T = [ByteArray.empty, obj] ++ (supers.take k).map supOf) (fun i _ => n - (intOf i).toNat)
  case atStart => exact ⟨0, [obj, fault], [ByteArray.empty, obj], _, _, rfl, Nat.zero_le _, RB0.out, FR0.out, rfl, rfl, by simp⟩
  case round =>
    obtain ⟨k, M, T, vn, vs, rfl, hk, hrn, hf, he, hM, hT⟩ := hrel
    have RNK : Hid (RN w.heap.size wr p vn vs M T) := hrn
    have F1 : Hid (Fr no w wr) := hf
    have HA : Hid (addN [obj, fault] names = addN M (names.drop k)) := he
    have HM : Hid (M.length = 2 + k) := hM
    have HT : Hid (T = [ByteArray.empty, obj] ++ (supers.take k).map supOf) := hT
    clear hrn hf he hM hT
    by_cases hlt : k < n
    · obtain ⟨x, hx⟩ : ∃ x, names[k]? = some x := ⟨_, List.getElem?_eq_getElem (by omega)⟩
      obtain ⟨y, hy⟩ : ∃ y, supers[k]? = some y := ⟨_, List.getElem?_eq_getElem (by have := HL.out; omega)⟩
      have hdr : Hid (names.drop k = x :: names.drop (k + 1)) := by
        obtain ⟨hk', e⟩ := List.getElem?_eq_some_iff.1 hx
        show _ = _
        rw [← e, List.getElem_cons_drop hk']
      obtain ⟨ad, cp, e', -, -, -, hit⟩ := H1.out.keep F1.out
      simp only [Value.slice.injEq] at e'
      obtain ⟨rfl, -, -⟩ := e'
      obtain ⟨b, off, rfl, hc⟩ := hit k x hx
      have hcx : wr.cell? ⟨b, off + k, none⟩ = some (.string x) := hc
      obtain ⟨ad, cp2, e', -, -, -, hit2⟩ := H2.out.keep F1.out
      simp only [Value.slice.injEq] at e'
      obtain ⟨rfl, -, -⟩ := e'
      obtain ⟨b', off', rfl, hc2'⟩ := hit2 k y hy
      have hcy : wr.cell? ⟨b', off' + k, none⟩ = some (.string y) := hc2'
      have hki : (k : Int) < (n : Int) := by omega
      have hxs := HS1.out x (List.mem_of_getElem? hx)
      have I := docName_any wr x hxs
      have Hs := at_any wr p M T RNK.out.rb x
      have HY : Hid (supers[k]? = some y) := hy
      have HXK : Hid (names[k]? = some x) := hx
      clear hit hc hx hit2 hc2' hy
      cases hnm : isName x with
      | false =>
        have HR : Hid (newH names supers = (50, [], [])) := by
          have e : addN [obj, fault] names = (50, M) := by rw [HA.out, hdr.out]; unfold addN; rw [if_pos hnm]
          show _ = _
          rw [HE.out, e]
          rfl
        rw [hnm] at I
        clear hnm Hs
        go_wp2_with fail
        refine I.mono ?_
        rintro e w1 ⟨rfl, rfl⟩
        go_wp2_with fail
        go_ret2
        rw [HR.out]
        exact ⟨_, rfl, ⟨fun _ => rfl, fun h => by simp at h⟩, F1.out⟩
      | true =>
        rw [hnm] at I
        cases hi : ix x M with
        | some i =>
          have HR : Hid (newH names supers = (53, [], [])) := by
            have e : addN [obj, fault] names = (53, M) := by rw [HA.out, hdr.out]; unfold addN; rw [if_neg (by simp [hnm]), if_pos (by rw [hi]; rfl)]
            show _ = _
            rw [HE.out, e]
            rfl
          have hp : plc M x = (i : Int) := by unfold plc; rw [hi]
          rw [hp] at Hs
          clear hnm hi hp
          go_wp2_with fail
          refine I.mono ?_
          rintro e w1 ⟨rfl, rfl⟩
          go_wp2_with fail
          refine Hs.mono ?_
          rintro e w1 ⟨rfl, rfl⟩
          go_wp2_with fail
          go_ret2
          rw [HR.out]
          exact ⟨_, rfl, ⟨fun _ => rfl, fun h => by simp at h⟩, F1.out⟩
        | none =>
          have hp : plc M x = -1 := by unfold plc; rw [hi]
          rw [hp] at Hs
          have HA2 : Hid (addN [obj, fault] names = addN (M ++ [x]) (names.drop (k + 1))) := by show _ = _; rw [HA.out, hdr.out]; unfold addN; rw [if_neg (by simp [hnm]), if_neg (by rw [hi]; simp)]; cases names.drop (k + 1) <;> rfl
          have HT2 : Hid (T ++ [supOf y] = [ByteArray.empty, obj] ++ (supers.take (k + 1)).map supOf) := by show _ = _; rw [HT.out, take_next supers k y HY.out]; simp
          clear hnm hi hp
          by_cases hem : y.toList = []
          · rw [sup_empty hem] at HT2
            go_wp2_with fail
            refine I.mono ?_
            rintro e w1 ⟨rfl, rfl⟩
            go_wp2_with fail
            refine Hs.mono ?_
            rintro e w1 ⟨rfl, rfl⟩
            obtain ⟨on, cn, rfl⟩ := RNK.out.one.form
            obtain ⟨os, cs, rfl⟩ := RNK.out.two.form
            obtain ⟨d0, d1⟩ := cells2 RNK.out.cells
            have hM1 : Hid (M.length + 1 ≤ 1000000) := by have := HM.out; show _ ≤ _; omega
            have hT1 : Hid (T.length + 1 ≤ 1000000) := by have := HT.out; show _ ≤ _; rw [this]; simp; omega
            generalize hml : M.length = ml at *
            generalize htl : T.length = tl at *
            have HCW : Hid (∀ w', Fr no w w' → w'.cell? ⟨b, off + k, none⟩ = some (.string x)) := fun w' f => by
              obtain ⟨ad', cp', e', -, -, -, hit⟩ := H1.out.keep f
              simp only [Value.slice.injEq] at e'
              obtain ⟨e1, -, -⟩ := e'
              obtain ⟨b2, off2, e2, hc⟩ := hit k x HXK.out
              rw [← e1] at e2
              simp only [Option.some.injEq, Addr.mk.injEq, and_true] at e2
              obtain ⟨rfl, rfl⟩ := e2
              exact hc
            have HS0 : Hid (w1.cell? ⟨p, 0, none⟩ = some (.slice on ml cn) ∧ w1.cell? ⟨p, 1, none⟩ = some (.slice os tl cs) ∧ w1.cell? ⟨b, off + k, none⟩ = some (.string x)) := ⟨d0, d1, hcx⟩
            have KSA : Hid (∀ w', Fr no w1 w' → w'.cell? ⟨p, 0, none⟩ = some (.slice on ml cn) ∧ w'.cell? ⟨p, 1, none⟩ = some (.slice os tl cs) ∧ w'.cell? ⟨b, off + k, none⟩ = some (.string x)) := fun w' f => ⟨f.cell d0 (fun f => f), f.cell d1 (fun f => f), f.cell hcx (fun f => f)⟩
            obtain ⟨oa, la0⟩ := la RNK.out F1.out x ⟨#[79, 98, 106, 101, 99, 116]⟩ (w1.drew.alloc (.cells #[.string x] 9)) ((Fr.refl no w1).drew.alloc _ _)
            obtain ⟨va0, w20, HR0, o2, s2⟩ := run_apdG elS_ok (w1.drew.alloc (.cells #[.string x] 9)) (.slice on ml cn) M oa (.slice (some ⟨w1.heap.size, 0, none⟩) 1 1) [x] (src_blk _ _ x (heap_alloc_new w1.drew _)) (by rw [hml]; exact hM1.out)
            obtain ⟨ov0, q0, cv0, rfl, g00, g10, hbk, F20, hB⟩ := la0 _ _ o2 s2
            obtain ⟨ob, LB⟩ := hB _ ((Fr.refl no w20).alloc #[.string ⟨#[79, 98, 106, 101, 99, 116]⟩] 9)
            obtain ⟨vb0, w30, HQ0, o3, s3⟩ := run_apdG elS_ok (w20.alloc (.cells #[.string ⟨#[79, 98, 106, 101, 99, 116]⟩] 9)) (.slice os tl cs) T ob.out (.slice (some ⟨w20.heap.size, 0, none⟩) 1 1) [⟨#[79, 98, 106, 101, 99, 116]⟩] (src_blk _ _ ⟨#[79, 98, 106, 101, 99, 116]⟩ (heap_alloc_new w20 _)) (by rw [htl]; exact hT1.out)
            obtain ⟨ou0, r0, cu0, rfl, f00, f10, z00, y10, z10, F30, RN30, FF0⟩ := LB.out _ _ o3 s3
            clear o2 s2 o3 s3 oa ob LB hB hbk la0
            have SA0 : Hid (w20.cell? ⟨p, 0, none⟩ = some (.slice on ml cn) ∧ w20.cell? ⟨p, 1, none⟩ = some (.slice os tl cs) ∧ w20.cell? ⟨b, off + k, none⟩ = some (.string x)) := ⟨g00, g10, HCW.out _ F20.out⟩
            have SB0 : Hid (w30.cell? ⟨p, 0, none⟩ = some (.slice on ml cn) ∧ w30.cell? ⟨p, 1, none⟩ = some (.slice os tl cs) ∧ w30.cell? ⟨b, off + k, none⟩ = some (.string x)) := ⟨f00, f10, HCW.out _ F30.out⟩
            have SY0 : Hid ((w20.alloc (.cells #[.string ⟨#[79, 98, 106, 101, 99, 116]⟩] 9)).cell? ⟨p, 0, none⟩ = some (.slice on ml cn) ∧ (w20.alloc (.cells #[.string ⟨#[79, 98, 106, 101, 99, 116]⟩] 9)).cell? ⟨p, 1, none⟩ = some (.slice os tl cs) ∧ (w20.alloc (.cells #[.string ⟨#[79, 98, 106, 101, 99, 116]⟩] 9)).cell? ⟨b, off + k, none⟩ = some (.string x)) := ⟨((Fr.refl no w20).alloc _ _).cell g00 (fun f => f), ((Fr.refl no w20).alloc _ _).cell g10 (fun f => f), ((Fr.refl no w20).alloc _ _).cell (HCW.out _ F20.out) (fun f => f)⟩
            obtain ⟨oa, la1⟩ := la RNK.out F1.out x ⟨#[79, 98, 106, 101, 99, 116]⟩ ((w1.drew.alloc (.cells #[.string x] 9)).alloc (.cells #[.string ⟨#[79, 98, 106, 101, 99, 116]⟩] 9)) (((Fr.refl no w1).drew.alloc _ _).alloc _ _)
            obtain ⟨va1, w21, HR1, o2, s2⟩ := run_apdG elS_ok ((w1.drew.alloc (.cells #[.string x] 9)).alloc (.cells #[.string ⟨#[79, 98, 106, 101, 99, 116]⟩] 9)) (.slice on ml cn) M oa (.slice (some ⟨w1.heap.size, 0, none⟩) 1 1) [x] (src_blk _ _ x (heap_push1 w1.drew _ _ _ _)) (by rw [hml]; exact hM1.out)
            obtain ⟨ov1, q1, cv1, rfl, g01, g11, hbk, F21, hB⟩ := la1 _ _ o2 s2
            obtain ⟨ob, LB⟩ := hB _ (Fr.refl no w21)
            obtain ⟨vb1, w31, HQ1, o3, s3⟩ := run_apdG elS_ok (w21) (.slice os tl cs) T ob.out (.slice (some ⟨w1.heap.size + 1, 0, none⟩) 1 1) [⟨#[79, 98, 106, 101, 99, 116]⟩] (src_blk _ _ ⟨#[79, 98, 106, 101, 99, 116]⟩ (hbk _ _ (heap_push2 w1.drew _ _ _ _) (by show w1.heap.size ≤ w1.heap.size + 1; omega))) (by rw [htl]; exact hT1.out)
            obtain ⟨ou1, r1, cu1, rfl, f01, f11, z01, y11, z11, F31, RN31, FF1⟩ := LB.out _ _ o3 s3
            clear o2 s2 o3 s3 oa ob LB hB hbk la1
            have SA1 : Hid (w21.cell? ⟨p, 0, none⟩ = some (.slice on ml cn) ∧ w21.cell? ⟨p, 1, none⟩ = some (.slice os tl cs) ∧ w21.cell? ⟨b, off + k, none⟩ = some (.string x)) := ⟨g01, g11, HCW.out _ F21.out⟩
            have SB1 : Hid (w31.cell? ⟨p, 0, none⟩ = some (.slice on ml cn) ∧ w31.cell? ⟨p, 1, none⟩ = some (.slice os tl cs) ∧ w31.cell? ⟨b, off + k, none⟩ = some (.string x)) := ⟨f01, f11, HCW.out _ F31.out⟩
            obtain ⟨oa, la2⟩ := la RNK.out F1.out x ⟨#[79, 98, 106, 101, 99, 116]⟩ ((w1.drew.alloc (.cells #[.string ⟨#[79, 98, 106, 101, 99, 116]⟩] 9)).alloc (.cells #[.string x] 9)) (((Fr.refl no w1).drew.alloc _ _).alloc _ _)
            obtain ⟨va2, w22, HR2, o2, s2⟩ := run_apdG elS_ok ((w1.drew.alloc (.cells #[.string ⟨#[79, 98, 106, 101, 99, 116]⟩] 9)).alloc (.cells #[.string x] 9)) (.slice on ml cn) M oa (.slice (some ⟨w1.heap.size + 1, 0, none⟩) 1 1) [x] (src_blk _ _ x (heap_push2 w1.drew _ _ _ _)) (by rw [hml]; exact hM1.out)
            obtain ⟨ov2, q2, cv2, rfl, g02, g12, hbk, F22, hB⟩ := la2 _ _ o2 s2
            obtain ⟨ob, LB⟩ := hB _ (Fr.refl no w22)
            obtain ⟨vb2, w32, HQ2, o3, s3⟩ := run_apdG elS_ok (w22) (.slice os tl cs) T ob.out (.slice (some ⟨w1.heap.size, 0, none⟩) 1 1) [⟨#[79, 98, 106, 101, 99, 116]⟩] (src_blk _ _ ⟨#[79, 98, 106, 101, 99, 116]⟩ (hbk _ _ (heap_push1 w1.drew _ _ _ _) (Nat.le_refl _))) (by rw [htl]; exact hT1.out)
            obtain ⟨ou2, r2, cu2, rfl, f02, f12, z02, y12, z12, F32, RN32, FF2⟩ := LB.out _ _ o3 s3
            clear o2 s2 o3 s3 oa ob LB hB hbk la2
            have SA2 : Hid (w22.cell? ⟨p, 0, none⟩ = some (.slice on ml cn) ∧ w22.cell? ⟨p, 1, none⟩ = some (.slice os tl cs) ∧ w22.cell? ⟨b, off + k, none⟩ = some (.string x)) := ⟨g02, g12, HCW.out _ F22.out⟩
            have SB2 : Hid (w32.cell? ⟨p, 0, none⟩ = some (.slice on ml cn) ∧ w32.cell? ⟨p, 1, none⟩ = some (.slice os tl cs) ∧ w32.cell? ⟨b, off + k, none⟩ = some (.string x)) := ⟨f02, f12, HCW.out _ F32.out⟩
            go_wp2_with fail
            refine late_begin (S := fun w' => w'.cell? ⟨p, 0, none⟩ = some (.slice on ml cn) ∧ w'.cell? ⟨p, 1, none⟩ = some (.slice os tl cs) ∧ w'.cell? ⟨b, off + k, none⟩ = some (.string x)) (g := 21) (by kernel_rfl) ?_
            refine late_pure 0 (.pointer (some ⟨p, 0, none⟩)) rfl (by kernel_rfl) (by kernel_rfl) (by kernel_rfl) (fun _ _ _ h => h) (by decide) (yields rfl (fun _ _ => ev_move 6 _ rfl (by kernel_rfl))) (fun _ => HS0.out) ?_
            refine late_pure 1 (.pointer (some ⟨p, 0, none⟩)) rfl (by kernel_rfl) (by kernel_rfl) (by kernel_rfl) (fun _ _ _ h => h) (by decide) (yields rfl (fun _ _ => ev_move 6 _ rfl (by kernel_rfl))) (fun _ => HS0.out) ?_
            refine late_pure 2 (.pointer (some ⟨p, 0, none⟩)) rfl (by kernel_rfl) (by kernel_rfl) (by kernel_rfl) (fun _ _ _ h => h) (by decide) (yields rfl (fun _ _ => ev_move 6 _ rfl (by kernel_rfl))) (fun _ => HS0.out) ?_
            refine late_pure 3 (.pointer (some ⟨p, 0, none⟩)) rfl (by kernel_rfl) (by kernel_rfl) (by kernel_rfl) (fun _ _ _ h => h) (by decide) (yields rfl (fun _ _ => ev_nil 52 ⟨p, 0, none⟩ rfl (by kernel_rfl))) (fun _ => HS0.out) ?_
            refine late_pure 4 (.pointer (some ⟨p, 0, none⟩)) rfl (by kernel_rfl) (by kernel_rfl) (by kernel_rfl) (fun _ _ _ h => h) (by decide) (yields rfl (fun _ _ => ev_field0 53 p rfl (by kernel_rfl))) (fun _ => HS0.out) ?_
            refine late_take 5 (.slice on ml cn) rfl (by kernel_rfl) (by kernel_rfl) (by kernel_rfl) (fun _ _ _ h => h) (waits_of (by kernel_rfl)) (by decide) (by kernel_rfl) (yields rfl (fun _ hS => ev_load22 54 ⟨p, 0, none⟩ _ rfl (by kernel_rfl) hS.1)) HS0.out ?_
            refine late_pure 6 (.slice (some ⟨b, off, none⟩) n c1) rfl (by kernel_rfl) (by kernel_rfl) (by kernel_rfl) (fun _ _ _ h => h) (by decide) (yields rfl (fun _ _ => ev_move 0 _ rfl (by kernel_rfl))) (fun _ => HS0.out) ?_
            refine late_pure 7 (.int .i64 (k : Int)) rfl (by kernel_rfl) (by kernel_rfl) (by kernel_rfl) (fun _ _ _ h => h) (by decide) (yields rfl (fun _ _ => ev_move 7 _ rfl (by kernel_rfl))) (fun _ => HS0.out) ?_
            refine late_pure 8 (.pointer (some ⟨b, off + k, none⟩)) rfl (by kernel_rfl) (by kernel_rfl) (by kernel_rfl) (fun _ _ _ h => h) (by decide) (yields rfl (fun _ _ => ev_index 56 57 b off n c1 k rfl (by kernel_rfl) (by kernel_rfl) hki)) (fun _ => HS0.out) ?_
            refine late_take 9 (.string x) rfl (by kernel_rfl) (by kernel_rfl) (by kernel_rfl) (fun _ _ _ h => h) (waits_of (by kernel_rfl)) (by decide) (by kernel_rfl) (yields rfl (fun _ hS => ev_load9 58 ⟨b, off + k, none⟩ _ rfl (by kernel_rfl) hS.2.2)) HS0.out ?_
            refine late_pure 12 (.pointer (some ⟨p, 0, none⟩)) rfl (by kernel_rfl) (by kernel_rfl) (by kernel_rfl) (fun _ _ _ h => h) (by decide) (yields rfl (fun _ _ => ev_move 6 _ rfl (by kernel_rfl))) (fun _ => HS0.out) ?_
            refine late_pure 13 (.pointer (some ⟨p, 0, none⟩)) rfl (by kernel_rfl) (by kernel_rfl) (by kernel_rfl) (fun _ _ _ h => h) (by decide) (yields rfl (fun _ _ => ev_nil 62 ⟨p, 0, none⟩ rfl (by kernel_rfl))) (fun _ => HS0.out) ?_
            refine late_pure 14 (.pointer (some ⟨p, 1, none⟩)) rfl (by kernel_rfl) (by kernel_rfl) (by kernel_rfl) (fun _ _ _ h => h) (by decide) (yields rfl (fun _ _ => ev_field1 63 p rfl (by kernel_rfl))) (fun _ => HS0.out) ?_
            refine late_take 15 (.slice os tl cs) rfl (by kernel_rfl) (by kernel_rfl) (by kernel_rfl) (fun _ _ _ h => h) (waits_of (by kernel_rfl)) (by decide) (by kernel_rfl) (yields rfl (fun _ hS => ev_load22 64 ⟨p, 1, none⟩ _ rfl (by kernel_rfl) hS.2.1)) HS0.out ?_
            refine late_pure 16 (.string ⟨#[79, 98, 106, 101, 99, 116]⟩) rfl (by kernel_rfl) (by kernel_rfl) (by kernel_rfl) (fun _ _ _ h => h) (by decide) (yields rfl (fun _ _ => ev_move 8 _ rfl (by kernel_rfl))) (fun _ => HS0.out) ?_
            refine late_all [10, 17] (by kernel_rfl) (by simp) (fun j hj => ?_)
            obtain rfl | rfl : j = 10 ∨ j = 17 := by simpa using hj
            · refine late_op rfl rfl (ev_build 59 x w1.heap.size rfl rfl (by kernel_rfl)) ⟨fun _ => KSA.out _ ((Fr.refl no w1).drew.alloc _ _), ?_⟩
              refine late_all [11, 17] (by kernel_rfl) (by simp) (fun j hj => ?_)
              obtain rfl | rfl : j = 11 ∨ j = 17 := by simpa using hj
              · refine late_op rfl rfl (ev_append 55 60 _ _ _ _ rfl rfl (by kernel_rfl) (by kernel_rfl) HR0) ⟨fun _ => SA0.out, ?_⟩
                refine late_all [17] (by kernel_rfl) (by simp) (fun j hj => ?_)
                obtain rfl : j = 17 := by simpa using hj
                refine late_op rfl rfl (ev_build 66 ⟨#[79, 98, 106, 101, 99, 116]⟩ w20.heap.size rfl rfl (by kernel_rfl)) ⟨fun _ => SY0.out, ?_⟩
                refine late_all [18] (by kernel_rfl) (by simp) (fun j hj => ?_)
                obtain rfl : j = 18 := by simpa using hj
                refine late_op rfl rfl (ev_append 65 67 _ _ _ _ rfl rfl (by kernel_rfl) (by kernel_rfl) HQ0) ⟨fun _ => SB0.out, ?_⟩
                refine late_pure 19 (.pointer (some ⟨p, 0, none⟩)) rfl (by kernel_rfl) (by kernel_rfl) (by kernel_rfl) (fun _ _ _ h => h) (by decide) (yields rfl (fun _ _ => ev_nil 50 ⟨p, 0, none⟩ rfl (by kernel_rfl))) (fun _ => SB0.out) ?_
                refine late_pure 20 (.pointer (some ⟨p, 0, none⟩)) rfl (by kernel_rfl) (by kernel_rfl) (by kernel_rfl) (fun _ _ _ h => h) (by decide) (yields rfl (fun _ _ => ev_field0 69 p rfl (by kernel_rfl))) (fun _ => SB0.out) ?_
                refine late_all [21] (by kernel_rfl) (by simp) (fun j hj => ?_)
                obtain rfl : j = 21 := by simpa using hj
                refine late_skip rfl rfl (ev_store 70 61 ⟨p, 0, none⟩ _ ov0 q0 cv0 rfl (by kernel_rfl) (by kernel_rfl) f00 z00) ⟨(fun h => Bool.noConfusion (show true = false from h)), ?_⟩
                refine late_pure 22 (.pointer (some ⟨p, 0, none⟩)) rfl (by kernel_rfl) (by kernel_rfl) (by kernel_rfl) (fun _ _ _ h => h) (by decide) (yields rfl (fun _ _ => ev_nil 51 ⟨p, 0, none⟩ rfl (by kernel_rfl))) (fun h => Bool.noConfusion (show true = false from h)) ?_
                refine late_pure 23 (.pointer (some ⟨p, 1, none⟩)) rfl (by kernel_rfl) (by kernel_rfl) (by kernel_rfl) (fun _ _ _ h => h) (by decide) (yields rfl (fun _ _ => ev_field1 71 p rfl (by kernel_rfl))) (fun h => Bool.noConfusion (show true = false from h)) ?_
                refine late_all [24] (by kernel_rfl) (by simp) (fun j hj => ?_)
                obtain rfl : j = 24 := by simpa using hj
                refine late_skip rfl rfl (ev_store 72 68 ⟨p, 1, none⟩ _ ou0 r0 cu0 rfl (by kernel_rfl) (by kernel_rfl) y10 z10) ⟨(fun h => Bool.noConfusion (show true = false from h)), ?_⟩
                refine late_done (by kernel_rfl) ?_
                simp only [Act.put, List.setIfInBounds_toArray]
                go_wp2_with fail
                go_roundw
                case rel => exact ⟨k + 1, M ++ [x], T ++ [⟨#[79, 98, 106, 101, 99, 116]⟩], _, _, by go_num, by omega, RN30.out, FF0.out, HA2.out, by have := HM.out; simp; omega, HT2.out⟩
                case measure => simp [intOf]; omega
              · refine late_op rfl rfl (ev_build 66 ⟨#[79, 98, 106, 101, 99, 116]⟩ (w1.heap.size + 1) (Array.size_push _) rfl (by kernel_rfl)) ⟨fun _ => KSA.out _ (((Fr.refl no w1).drew.alloc _ _).alloc _ _), ?_⟩
                refine late_all [11] (by kernel_rfl) (by simp) (fun j hj => ?_)
                obtain rfl : j = 11 := by simpa using hj
                refine late_op rfl rfl (ev_append 55 60 _ _ _ _ rfl rfl (by kernel_rfl) (by kernel_rfl) HR1) ⟨fun _ => SA1.out, ?_⟩
                refine late_all [18] (by kernel_rfl) (by simp) (fun j hj => ?_)
                obtain rfl : j = 18 := by simpa using hj
                refine late_op rfl rfl (ev_append 65 67 _ _ _ _ rfl rfl (by kernel_rfl) (by kernel_rfl) HQ1) ⟨fun _ => SB1.out, ?_⟩
                refine late_pure 19 (.pointer (some ⟨p, 0, none⟩)) rfl (by kernel_rfl) (by kernel_rfl) (by kernel_rfl) (fun _ _ _ h => h) (by decide) (yields rfl (fun _ _ => ev_nil 50 ⟨p, 0, none⟩ rfl (by kernel_rfl))) (fun _ => SB1.out) ?_
                refine late_pure 20 (.pointer (some ⟨p, 0, none⟩)) rfl (by kernel_rfl) (by kernel_rfl) (by kernel_rfl) (fun _ _ _ h => h) (by decide) (yields rfl (fun _ _ => ev_field0 69 p rfl (by kernel_rfl))) (fun _ => SB1.out) ?_
                refine late_all [21] (by kernel_rfl) (by simp) (fun j hj => ?_)
                obtain rfl : j = 21 := by simpa using hj
                refine late_skip rfl rfl (ev_store 70 61 ⟨p, 0, none⟩ _ ov1 q1 cv1 rfl (by kernel_rfl) (by kernel_rfl) f01 z01) ⟨(fun h => Bool.noConfusion (show true = false from h)), ?_⟩
                refine late_pure 22 (.pointer (some ⟨p, 0, none⟩)) rfl (by kernel_rfl) (by kernel_rfl) (by kernel_rfl) (fun _ _ _ h => h) (by decide) (yields rfl (fun _ _ => ev_nil 51 ⟨p, 0, none⟩ rfl (by kernel_rfl))) (fun h => Bool.noConfusion (show true = false from h)) ?_
                refine late_pure 23 (.pointer (some ⟨p, 1, none⟩)) rfl (by kernel_rfl) (by kernel_rfl) (by kernel_rfl) (fun _ _ _ h => h) (by decide) (yields rfl (fun _ _ => ev_field1 71 p rfl (by kernel_rfl))) (fun h => Bool.noConfusion (show true = false from h)) ?_
                refine late_all [24] (by kernel_rfl) (by simp) (fun j hj => ?_)
                obtain rfl : j = 24 := by simpa using hj
                refine late_skip rfl rfl (ev_store 72 68 ⟨p, 1, none⟩ _ ou1 r1 cu1 rfl (by kernel_rfl) (by kernel_rfl) y11 z11) ⟨(fun h => Bool.noConfusion (show true = false from h)), ?_⟩
                refine late_done (by kernel_rfl) ?_
                simp only [Act.put, List.setIfInBounds_toArray]
                go_wp2_with fail
                go_roundw
                case rel => exact ⟨k + 1, M ++ [x], T ++ [⟨#[79, 98, 106, 101, 99, 116]⟩], _, _, by go_num, by omega, RN31.out, FF1.out, HA2.out, by have := HM.out; simp; omega, HT2.out⟩
                case measure => simp [intOf]; omega
            · refine late_op rfl rfl (ev_build 66 ⟨#[79, 98, 106, 101, 99, 116]⟩ w1.heap.size rfl rfl (by kernel_rfl)) ⟨fun _ => KSA.out _ ((Fr.refl no w1).drew.alloc _ _), ?_⟩
              refine late_all [10] (by kernel_rfl) (by simp) (fun j hj => ?_)
              obtain rfl : j = 10 := by simpa using hj
              refine late_op rfl rfl (ev_build 59 x (w1.heap.size + 1) (Array.size_push _) rfl (by kernel_rfl)) ⟨fun _ => KSA.out _ (((Fr.refl no w1).drew.alloc _ _).alloc _ _), ?_⟩
              refine late_all [11] (by kernel_rfl) (by simp) (fun j hj => ?_)
              obtain rfl : j = 11 := by simpa using hj
              refine late_op rfl rfl (ev_append 55 60 _ _ _ _ rfl rfl (by kernel_rfl) (by kernel_rfl) HR2) ⟨fun _ => SA2.out, ?_⟩
              refine late_all [18] (by kernel_rfl) (by simp) (fun j hj => ?_)
              obtain rfl : j = 18 := by simpa using hj
              refine late_op rfl rfl (ev_append 65 67 _ _ _ _ rfl rfl (by kernel_rfl) (by kernel_rfl) HQ2) ⟨fun _ => SB2.out, ?_⟩
              refine late_pure 19 (.pointer (some ⟨p, 0, none⟩)) rfl (by kernel_rfl) (by kernel_rfl) (by kernel_rfl) (fun _ _ _ h => h) (by decide) (yields rfl (fun _ _ => ev_nil 50 ⟨p, 0, none⟩ rfl (by kernel_rfl))) (fun _ => SB2.out) ?_
              refine late_pure 20 (.pointer (some ⟨p, 0, none⟩)) rfl (by kernel_rfl) (by kernel_rfl) (by kernel_rfl) (fun _ _ _ h => h) (by decide) (yields rfl (fun _ _ => ev_field0 69 p rfl (by kernel_rfl))) (fun _ => SB2.out) ?_
              refine late_all [21] (by kernel_rfl) (by simp) (fun j hj => ?_)
              obtain rfl : j = 21 := by simpa using hj
              refine late_skip rfl rfl (ev_store 70 61 ⟨p, 0, none⟩ _ ov2 q2 cv2 rfl (by kernel_rfl) (by kernel_rfl) f02 z02) ⟨(fun h => Bool.noConfusion (show true = false from h)), ?_⟩
              refine late_pure 22 (.pointer (some ⟨p, 0, none⟩)) rfl (by kernel_rfl) (by kernel_rfl) (by kernel_rfl) (fun _ _ _ h => h) (by decide) (yields rfl (fun _ _ => ev_nil 51 ⟨p, 0, none⟩ rfl (by kernel_rfl))) (fun h => Bool.noConfusion (show true = false from h)) ?_
              refine late_pure 23 (.pointer (some ⟨p, 1, none⟩)) rfl (by kernel_rfl) (by kernel_rfl) (by kernel_rfl) (fun _ _ _ h => h) (by decide) (yields rfl (fun _ _ => ev_field1 71 p rfl (by kernel_rfl))) (fun h => Bool.noConfusion (show true = false from h)) ?_
              refine late_all [24] (by kernel_rfl) (by simp) (fun j hj => ?_)
              obtain rfl : j = 24 := by simpa using hj
              refine late_skip rfl rfl (ev_store 72 68 ⟨p, 1, none⟩ _ ou2 r2 cu2 rfl (by kernel_rfl) (by kernel_rfl) y12 z12) ⟨(fun h => Bool.noConfusion (show true = false from h)), ?_⟩
              refine late_done (by kernel_rfl) ?_
              simp only [Act.put, List.setIfInBounds_toArray]
              go_wp2_with fail
              go_roundw
              case rel => exact ⟨k + 1, M ++ [x], T ++ [⟨#[79, 98, 106, 101, 99, 116]⟩], _, _, by go_num, by omega, RN32.out, FF2.out, HA2.out, by have := HM.out; simp; omega, HT2.out⟩
              case measure => simp [intOf]; omega
          · have hne : y.toList.isEmpty = false := by simpa using hem
            rw [sup_self hem] at HT2
            go_wp2_with fail
            refine I.mono ?_
            rintro e w1 ⟨rfl, rfl⟩
            go_wp2_with fail
            refine Hs.mono ?_
            rintro e w1 ⟨rfl, rfl⟩
            obtain ⟨on, cn, rfl⟩ := RNK.out.one.form
            obtain ⟨os, cs, rfl⟩ := RNK.out.two.form
            obtain ⟨d0, d1⟩ := cells2 RNK.out.cells
            have hM1 : Hid (M.length + 1 ≤ 1000000) := by have := HM.out; show _ ≤ _; omega
            have hT1 : Hid (T.length + 1 ≤ 1000000) := by have := HT.out; show _ ≤ _; rw [this]; simp; omega
            generalize hml : M.length = ml at *
            generalize htl : T.length = tl at *
            have HCW : Hid (∀ w', Fr no w w' → w'.cell? ⟨b, off + k, none⟩ = some (.string x)) := fun w' f => by
              obtain ⟨ad', cp', e', -, -, -, hit⟩ := H1.out.keep f
              simp only [Value.slice.injEq] at e'
              obtain ⟨e1, -, -⟩ := e'
              obtain ⟨b2, off2, e2, hc⟩ := hit k x HXK.out
              rw [← e1] at e2
              simp only [Option.some.injEq, Addr.mk.injEq, and_true] at e2
              obtain ⟨rfl, rfl⟩ := e2
              exact hc
            have HS0 : Hid (w1.cell? ⟨p, 0, none⟩ = some (.slice on ml cn) ∧ w1.cell? ⟨p, 1, none⟩ = some (.slice os tl cs) ∧ w1.cell? ⟨b, off + k, none⟩ = some (.string x)) := ⟨d0, d1, hcx⟩
            have KSA : Hid (∀ w', Fr no w1 w' → w'.cell? ⟨p, 0, none⟩ = some (.slice on ml cn) ∧ w'.cell? ⟨p, 1, none⟩ = some (.slice os tl cs) ∧ w'.cell? ⟨b, off + k, none⟩ = some (.string x)) := fun w' f => ⟨f.cell d0 (fun f => f), f.cell d1 (fun f => f), f.cell hcx (fun f => f)⟩
            obtain ⟨oa, la0⟩ := la RNK.out F1.out x y (w1.drew.alloc (.cells #[.string x] 9)) ((Fr.refl no w1).drew.alloc _ _)
            obtain ⟨va0, w20, HR0, o2, s2⟩ := run_apdG elS_ok (w1.drew.alloc (.cells #[.string x] 9)) (.slice on ml cn) M oa (.slice (some ⟨w1.heap.size, 0, none⟩) 1 1) [x] (src_blk _ _ x (heap_alloc_new w1.drew _)) (by rw [hml]; exact hM1.out)
            obtain ⟨ov0, q0, cv0, rfl, g00, g10, hbk, F20, hB⟩ := la0 _ _ o2 s2
            obtain ⟨ob, LB⟩ := hB _ ((Fr.refl no w20).alloc #[.string y] 9)
            obtain ⟨vb0, w30, HQ0, o3, s3⟩ := run_apdG elS_ok (w20.alloc (.cells #[.string y] 9)) (.slice os tl cs) T ob.out (.slice (some ⟨w20.heap.size, 0, none⟩) 1 1) [y] (src_blk _ _ y (heap_alloc_new w20 _)) (by rw [htl]; exact hT1.out)
            obtain ⟨ou0, r0, cu0, rfl, f00, f10, z00, y10, z10, F30, RN30, FF0⟩ := LB.out _ _ o3 s3
            clear o2 s2 o3 s3 oa ob LB hB hbk la0
            have SA0 : Hid (w20.cell? ⟨p, 0, none⟩ = some (.slice on ml cn) ∧ w20.cell? ⟨p, 1, none⟩ = some (.slice os tl cs) ∧ w20.cell? ⟨b, off + k, none⟩ = some (.string x)) := ⟨g00, g10, HCW.out _ F20.out⟩
            have SB0 : Hid (w30.cell? ⟨p, 0, none⟩ = some (.slice on ml cn) ∧ w30.cell? ⟨p, 1, none⟩ = some (.slice os tl cs) ∧ w30.cell? ⟨b, off + k, none⟩ = some (.string x)) := ⟨f00, f10, HCW.out _ F30.out⟩
            have SY0 : Hid ((w20.alloc (.cells #[.string y] 9)).cell? ⟨p, 0, none⟩ = some (.slice on ml cn) ∧ (w20.alloc (.cells #[.string y] 9)).cell? ⟨p, 1, none⟩ = some (.slice os tl cs) ∧ (w20.alloc (.cells #[.string y] 9)).cell? ⟨b, off + k, none⟩ = some (.string x)) := ⟨((Fr.refl no w20).alloc _ _).cell g00 (fun f => f), ((Fr.refl no w20).alloc _ _).cell g10 (fun f => f), ((Fr.refl no w20).alloc _ _).cell (HCW.out _ F20.out) (fun f => f)⟩
            obtain ⟨oa, la1⟩ := la RNK.out F1.out x y ((w1.drew.alloc (.cells #[.string x] 9)).alloc (.cells #[.string y] 9)) (((Fr.refl no w1).drew.alloc _ _).alloc _ _)
            obtain ⟨va1, w21, HR1, o2, s2⟩ := run_apdG elS_ok ((w1.drew.alloc (.cells #[.string x] 9)).alloc (.cells #[.string y] 9)) (.slice on ml cn) M oa (.slice (some ⟨w1.heap.size, 0, none⟩) 1 1) [x] (src_blk _ _ x (heap_push1 w1.drew _ _ _ _)) (by rw [hml]; exact hM1.out)
            obtain ⟨ov1, q1, cv1, rfl, g01, g11, hbk, F21, hB⟩ := la1 _ _ o2 s2
            obtain ⟨ob, LB⟩ := hB _ (Fr.refl no w21)
            obtain ⟨vb1, w31, HQ1, o3, s3⟩ := run_apdG elS_ok (w21) (.slice os tl cs) T ob.out (.slice (some ⟨w1.heap.size + 1, 0, none⟩) 1 1) [y] (src_blk _ _ y (hbk _ _ (heap_push2 w1.drew _ _ _ _) (by show w1.heap.size ≤ w1.heap.size + 1; omega))) (by rw [htl]; exact hT1.out)
            obtain ⟨ou1, r1, cu1, rfl, f01, f11, z01, y11, z11, F31, RN31, FF1⟩ := LB.out _ _ o3 s3
            clear o2 s2 o3 s3 oa ob LB hB hbk la1
            have SA1 : Hid (w21.cell? ⟨p, 0, none⟩ = some (.slice on ml cn) ∧ w21.cell? ⟨p, 1, none⟩ = some (.slice os tl cs) ∧ w21.cell? ⟨b, off + k, none⟩ = some (.string x)) := ⟨g01, g11, HCW.out _ F21.out⟩
            have SB1 : Hid (w31.cell? ⟨p, 0, none⟩ = some (.slice on ml cn) ∧ w31.cell? ⟨p, 1, none⟩ = some (.slice os tl cs) ∧ w31.cell? ⟨b, off + k, none⟩ = some (.string x)) := ⟨f01, f11, HCW.out _ F31.out⟩
            obtain ⟨oa, la2⟩ := la RNK.out F1.out x y ((w1.drew.alloc (.cells #[.string y] 9)).alloc (.cells #[.string x] 9)) (((Fr.refl no w1).drew.alloc _ _).alloc _ _)
            obtain ⟨va2, w22, HR2, o2, s2⟩ := run_apdG elS_ok ((w1.drew.alloc (.cells #[.string y] 9)).alloc (.cells #[.string x] 9)) (.slice on ml cn) M oa (.slice (some ⟨w1.heap.size + 1, 0, none⟩) 1 1) [x] (src_blk _ _ x (heap_push2 w1.drew _ _ _ _)) (by rw [hml]; exact hM1.out)
            obtain ⟨ov2, q2, cv2, rfl, g02, g12, hbk, F22, hB⟩ := la2 _ _ o2 s2
            obtain ⟨ob, LB⟩ := hB _ (Fr.refl no w22)
            obtain ⟨vb2, w32, HQ2, o3, s3⟩ := run_apdG elS_ok (w22) (.slice os tl cs) T ob.out (.slice (some ⟨w1.heap.size, 0, none⟩) 1 1) [y] (src_blk _ _ y (hbk _ _ (heap_push1 w1.drew _ _ _ _) (Nat.le_refl _))) (by rw [htl]; exact hT1.out)
            obtain ⟨ou2, r2, cu2, rfl, f02, f12, z02, y12, z12, F32, RN32, FF2⟩ := LB.out _ _ o3 s3
            clear o2 s2 o3 s3 oa ob LB hB hbk la2
            have SA2 : Hid (w22.cell? ⟨p, 0, none⟩ = some (.slice on ml cn) ∧ w22.cell? ⟨p, 1, none⟩ = some (.slice os tl cs) ∧ w22.cell? ⟨b, off + k, none⟩ = some (.string x)) := ⟨g02, g12, HCW.out _ F22.out⟩
            have SB2 : Hid (w32.cell? ⟨p, 0, none⟩ = some (.slice on ml cn) ∧ w32.cell? ⟨p, 1, none⟩ = some (.slice os tl cs) ∧ w32.cell? ⟨b, off + k, none⟩ = some (.string x)) := ⟨f02, f12, HCW.out _ F32.out⟩
            go_wp2_with fail
            refine late_begin (S := fun w' => w'.cell? ⟨p, 0, none⟩ = some (.slice on ml cn) ∧ w'.cell? ⟨p, 1, none⟩ = some (.slice os tl cs) ∧ w'.cell? ⟨b, off + k, none⟩ = some (.string x)) (g := 21) (by kernel_rfl) ?_
            refine late_pure 0 (.pointer (some ⟨p, 0, none⟩)) rfl (by kernel_rfl) (by kernel_rfl) (by kernel_rfl) (fun _ _ _ h => h) (by decide) (yields rfl (fun _ _ => ev_move 6 _ rfl (by kernel_rfl))) (fun _ => HS0.out) ?_
            refine late_pure 1 (.pointer (some ⟨p, 0, none⟩)) rfl (by kernel_rfl) (by kernel_rfl) (by kernel_rfl) (fun _ _ _ h => h) (by decide) (yields rfl (fun _ _ => ev_move 6 _ rfl (by kernel_rfl))) (fun _ => HS0.out) ?_
            refine late_pure 2 (.pointer (some ⟨p, 0, none⟩)) rfl (by kernel_rfl) (by kernel_rfl) (by kernel_rfl) (fun _ _ _ h => h) (by decide) (yields rfl (fun _ _ => ev_move 6 _ rfl (by kernel_rfl))) (fun _ => HS0.out) ?_
            refine late_pure 3 (.pointer (some ⟨p, 0, none⟩)) rfl (by kernel_rfl) (by kernel_rfl) (by kernel_rfl) (fun _ _ _ h => h) (by decide) (yields rfl (fun _ _ => ev_nil 52 ⟨p, 0, none⟩ rfl (by kernel_rfl))) (fun _ => HS0.out) ?_
            refine late_pure 4 (.pointer (some ⟨p, 0, none⟩)) rfl (by kernel_rfl) (by kernel_rfl) (by kernel_rfl) (fun _ _ _ h => h) (by decide) (yields rfl (fun _ _ => ev_field0 53 p rfl (by kernel_rfl))) (fun _ => HS0.out) ?_
            refine late_take 5 (.slice on ml cn) rfl (by kernel_rfl) (by kernel_rfl) (by kernel_rfl) (fun _ _ _ h => h) (waits_of (by kernel_rfl)) (by decide) (by kernel_rfl) (yields rfl (fun _ hS => ev_load22 54 ⟨p, 0, none⟩ _ rfl (by kernel_rfl) hS.1)) HS0.out ?_
            refine late_pure 6 (.slice (some ⟨b, off, none⟩) n c1) rfl (by kernel_rfl) (by kernel_rfl) (by kernel_rfl) (fun _ _ _ h => h) (by decide) (yields rfl (fun _ _ => ev_move 0 _ rfl (by kernel_rfl))) (fun _ => HS0.out) ?_
            refine late_pure 7 (.int .i64 (k : Int)) rfl (by kernel_rfl) (by kernel_rfl) (by kernel_rfl) (fun _ _ _ h => h) (by decide) (yields rfl (fun _ _ => ev_move 7 _ rfl (by kernel_rfl))) (fun _ => HS0.out) ?_
            refine late_pure 8 (.pointer (some ⟨b, off + k, none⟩)) rfl (by kernel_rfl) (by kernel_rfl) (by kernel_rfl) (fun _ _ _ h => h) (by decide) (yields rfl (fun _ _ => ev_index 56 57 b off n c1 k rfl (by kernel_rfl) (by kernel_rfl) hki)) (fun _ => HS0.out) ?_
            refine late_take 9 (.string x) rfl (by kernel_rfl) (by kernel_rfl) (by kernel_rfl) (fun _ _ _ h => h) (waits_of (by kernel_rfl)) (by decide) (by kernel_rfl) (yields rfl (fun _ hS => ev_load9 58 ⟨b, off + k, none⟩ _ rfl (by kernel_rfl) hS.2.2)) HS0.out ?_
            refine late_pure 12 (.pointer (some ⟨p, 0, none⟩)) rfl (by kernel_rfl) (by kernel_rfl) (by kernel_rfl) (fun _ _ _ h => h) (by decide) (yields rfl (fun _ _ => ev_move 6 _ rfl (by kernel_rfl))) (fun _ => HS0.out) ?_
            refine late_pure 13 (.pointer (some ⟨p, 0, none⟩)) rfl (by kernel_rfl) (by kernel_rfl) (by kernel_rfl) (fun _ _ _ h => h) (by decide) (yields rfl (fun _ _ => ev_nil 62 ⟨p, 0, none⟩ rfl (by kernel_rfl))) (fun _ => HS0.out) ?_
            refine late_pure 14 (.pointer (some ⟨p, 1, none⟩)) rfl (by kernel_rfl) (by kernel_rfl) (by kernel_rfl) (fun _ _ _ h => h) (by decide) (yields rfl (fun _ _ => ev_field1 63 p rfl (by kernel_rfl))) (fun _ => HS0.out) ?_
            refine late_take 15 (.slice os tl cs) rfl (by kernel_rfl) (by kernel_rfl) (by kernel_rfl) (fun _ _ _ h => h) (waits_of (by kernel_rfl)) (by decide) (by kernel_rfl) (yields rfl (fun _ hS => ev_load22 64 ⟨p, 1, none⟩ _ rfl (by kernel_rfl) hS.2.1)) HS0.out ?_
            refine late_pure 16 (.string y) rfl (by kernel_rfl) (by kernel_rfl) (by kernel_rfl) (fun _ _ _ h => h) (by decide) (yields rfl (fun _ _ => ev_move 8 _ rfl (by kernel_rfl))) (fun _ => HS0.out) ?_
            refine late_all [10, 17] (by kernel_rfl) (by simp) (fun j hj => ?_)
            obtain rfl | rfl : j = 10 ∨ j = 17 := by simpa using hj
            · refine late_op rfl rfl (ev_build 59 x w1.heap.size rfl rfl (by kernel_rfl)) ⟨fun _ => KSA.out _ ((Fr.refl no w1).drew.alloc _ _), ?_⟩
              refine late_all [11, 17] (by kernel_rfl) (by simp) (fun j hj => ?_)
              obtain rfl | rfl : j = 11 ∨ j = 17 := by simpa using hj
              · refine late_op rfl rfl (ev_append 55 60 _ _ _ _ rfl rfl (by kernel_rfl) (by kernel_rfl) HR0) ⟨fun _ => SA0.out, ?_⟩
                refine late_all [17] (by kernel_rfl) (by simp) (fun j hj => ?_)
                obtain rfl : j = 17 := by simpa using hj
                refine late_op rfl rfl (ev_build 66 y w20.heap.size rfl rfl (by kernel_rfl)) ⟨fun _ => SY0.out, ?_⟩
                refine late_all [18] (by kernel_rfl) (by simp) (fun j hj => ?_)
                obtain rfl : j = 18 := by simpa using hj
                refine late_op rfl rfl (ev_append 65 67 _ _ _ _ rfl rfl (by kernel_rfl) (by kernel_rfl) HQ0) ⟨fun _ => SB0.out, ?_⟩
                refine late_pure 19 (.pointer (some ⟨p, 0, none⟩)) rfl (by kernel_rfl) (by kernel_rfl) (by kernel_rfl) (fun _ _ _ h => h) (by decide) (yields rfl (fun _ _ => ev_nil 50 ⟨p, 0, none⟩ rfl (by kernel_rfl))) (fun _ => SB0.out) ?_
                refine late_pure 20 (.pointer (some ⟨p, 0, none⟩)) rfl (by kernel_rfl) (by kernel_rfl) (by kernel_rfl) (fun _ _ _ h => h) (by decide) (yields rfl (fun _ _ => ev_field0 69 p rfl (by kernel_rfl))) (fun _ => SB0.out) ?_
                refine late_all [21] (by kernel_rfl) (by simp) (fun j hj => ?_)
                obtain rfl : j = 21 := by simpa using hj
                refine late_skip rfl rfl (ev_store 70 61 ⟨p, 0, none⟩ _ ov0 q0 cv0 rfl (by kernel_rfl) (by kernel_rfl) f00 z00) ⟨(fun h => Bool.noConfusion (show true = false from h)), ?_⟩
                refine late_pure 22 (.pointer (some ⟨p, 0, none⟩)) rfl (by kernel_rfl) (by kernel_rfl) (by kernel_rfl) (fun _ _ _ h => h) (by decide) (yields rfl (fun _ _ => ev_nil 51 ⟨p, 0, none⟩ rfl (by kernel_rfl))) (fun h => Bool.noConfusion (show true = false from h)) ?_
                refine late_pure 23 (.pointer (some ⟨p, 1, none⟩)) rfl (by kernel_rfl) (by kernel_rfl) (by kernel_rfl) (fun _ _ _ h => h) (by decide) (yields rfl (fun _ _ => ev_field1 71 p rfl (by kernel_rfl))) (fun h => Bool.noConfusion (show true = false from h)) ?_
                refine late_all [24] (by kernel_rfl) (by simp) (fun j hj => ?_)
                obtain rfl : j = 24 := by simpa using hj
                refine late_skip rfl rfl (ev_store 72 68 ⟨p, 1, none⟩ _ ou0 r0 cu0 rfl (by kernel_rfl) (by kernel_rfl) y10 z10) ⟨(fun h => Bool.noConfusion (show true = false from h)), ?_⟩
                refine late_done (by kernel_rfl) ?_
                simp only [Act.put, List.setIfInBounds_toArray]
                go_wp2_with fail
                go_roundw
                case rel => exact ⟨k + 1, M ++ [x], T ++ [y], _, _, by go_num, by omega, RN30.out, FF0.out, HA2.out, by have := HM.out; simp; omega, HT2.out⟩
                case measure => simp [intOf]; omega
              · refine late_op rfl rfl (ev_build 66 y (w1.heap.size + 1) (Array.size_push _) rfl (by kernel_rfl)) ⟨fun _ => KSA.out _ (((Fr.refl no w1).drew.alloc _ _).alloc _ _), ?_⟩
                refine late_all [11] (by kernel_rfl) (by simp) (fun j hj => ?_)
                obtain rfl : j = 11 := by simpa using hj
                refine late_op rfl rfl (ev_append 55 60 _ _ _ _ rfl rfl (by kernel_rfl) (by kernel_rfl) HR1) ⟨fun _ => SA1.out, ?_⟩
                refine late_all [18] (by kernel_rfl) (by simp) (fun j hj => ?_)
                obtain rfl : j = 18 := by simpa using hj
                refine late_op rfl rfl (ev_append 65 67 _ _ _ _ rfl rfl (by kernel_rfl) (by kernel_rfl) HQ1) ⟨fun _ => SB1.out, ?_⟩
                refine late_pure 19 (.pointer (some ⟨p, 0, none⟩)) rfl (by kernel_rfl) (by kernel_rfl) (by kernel_rfl) (fun _ _ _ h => h) (by decide) (yields rfl (fun _ _ => ev_nil 50 ⟨p, 0, none⟩ rfl (by kernel_rfl))) (fun _ => SB1.out) ?_
                refine late_pure 20 (.pointer (some ⟨p, 0, none⟩)) rfl (by kernel_rfl) (by kernel_rfl) (by kernel_rfl) (fun _ _ _ h => h) (by decide) (yields rfl (fun _ _ => ev_field0 69 p rfl (by kernel_rfl))) (fun _ => SB1.out) ?_
                refine late_all [21] (by kernel_rfl) (by simp) (fun j hj => ?_)
                obtain rfl : j = 21 := by simpa using hj
                refine late_skip rfl rfl (ev_store 70 61 ⟨p, 0, none⟩ _ ov1 q1 cv1 rfl (by kernel_rfl) (by kernel_rfl) f01 z01) ⟨(fun h => Bool.noConfusion (show true = false from h)), ?_⟩
                refine late_pure 22 (.pointer (some ⟨p, 0, none⟩)) rfl (by kernel_rfl) (by kernel_rfl) (by kernel_rfl) (fun _ _ _ h => h) (by decide) (yields rfl (fun _ _ => ev_nil 51 ⟨p, 0, none⟩ rfl (by kernel_rfl))) (fun h => Bool.noConfusion (show true = false from h)) ?_
                refine late_pure 23 (.pointer (some ⟨p, 1, none⟩)) rfl (by kernel_rfl) (by kernel_rfl) (by kernel_rfl) (fun _ _ _ h => h) (by decide) (yields rfl (fun _ _ => ev_field1 71 p rfl (by kernel_rfl))) (fun h => Bool.noConfusion (show true = false from h)) ?_
                refine late_all [24] (by kernel_rfl) (by simp) (fun j hj => ?_)
                obtain rfl : j = 24 := by simpa using hj
                refine late_skip rfl rfl (ev_store 72 68 ⟨p, 1, none⟩ _ ou1 r1 cu1 rfl (by kernel_rfl) (by kernel_rfl) y11 z11) ⟨(fun h => Bool.noConfusion (show true = false from h)), ?_⟩
                refine late_done (by kernel_rfl) ?_
                simp only [Act.put, List.setIfInBounds_toArray]
                go_wp2_with fail
                go_roundw
                case rel => exact ⟨k + 1, M ++ [x], T ++ [y], _, _, by go_num, by omega, RN31.out, FF1.out, HA2.out, by have := HM.out; simp; omega, HT2.out⟩
                case measure => simp [intOf]; omega
            · refine late_op rfl rfl (ev_build 66 y w1.heap.size rfl rfl (by kernel_rfl)) ⟨fun _ => KSA.out _ ((Fr.refl no w1).drew.alloc _ _), ?_⟩
              refine late_all [10] (by kernel_rfl) (by simp) (fun j hj => ?_)
              obtain rfl : j = 10 := by simpa using hj
              refine late_op rfl rfl (ev_build 59 x (w1.heap.size + 1) (Array.size_push _) rfl (by kernel_rfl)) ⟨fun _ => KSA.out _ (((Fr.refl no w1).drew.alloc _ _).alloc _ _), ?_⟩
              refine late_all [11] (by kernel_rfl) (by simp) (fun j hj => ?_)
              obtain rfl : j = 11 := by simpa using hj
              refine late_op rfl rfl (ev_append 55 60 _ _ _ _ rfl rfl (by kernel_rfl) (by kernel_rfl) HR2) ⟨fun _ => SA2.out, ?_⟩
              refine late_all [18] (by kernel_rfl) (by simp) (fun j hj => ?_)
              obtain rfl : j = 18 := by simpa using hj
              refine late_op rfl rfl (ev_append 65 67 _ _ _ _ rfl rfl (by kernel_rfl) (by kernel_rfl) HQ2) ⟨fun _ => SB2.out, ?_⟩
              refine late_pure 19 (.pointer (some ⟨p, 0, none⟩)) rfl (by kernel_rfl) (by kernel_rfl) (by kernel_rfl) (fun _ _ _ h => h) (by decide) (yields rfl (fun _ _ => ev_nil 50 ⟨p, 0, none⟩ rfl (by kernel_rfl))) (fun _ => SB2.out) ?_
              refine late_pure 20 (.pointer (some ⟨p, 0, none⟩)) rfl (by kernel_rfl) (by kernel_rfl) (by kernel_rfl) (fun _ _ _ h => h) (by decide) (yields rfl (fun _ _ => ev_field0 69 p rfl (by kernel_rfl))) (fun _ => SB2.out) ?_
              refine late_all [21] (by kernel_rfl) (by simp) (fun j hj => ?_)
              obtain rfl : j = 21 := by simpa using hj
              refine late_skip rfl rfl (ev_store 70 61 ⟨p, 0, none⟩ _ ov2 q2 cv2 rfl (by kernel_rfl) (by kernel_rfl) f02 z02) ⟨(fun h => Bool.noConfusion (show true = false from h)), ?_⟩
              refine late_pure 22 (.pointer (some ⟨p, 0, none⟩)) rfl (by kernel_rfl) (by kernel_rfl) (by kernel_rfl) (fun _ _ _ h => h) (by decide) (yields rfl (fun _ _ => ev_nil 51 ⟨p, 0, none⟩ rfl (by kernel_rfl))) (fun h => Bool.noConfusion (show true = false from h)) ?_
              refine late_pure 23 (.pointer (some ⟨p, 1, none⟩)) rfl (by kernel_rfl) (by kernel_rfl) (by kernel_rfl) (fun _ _ _ h => h) (by decide) (yields rfl (fun _ _ => ev_field1 71 p rfl (by kernel_rfl))) (fun h => Bool.noConfusion (show true = false from h)) ?_
              refine late_all [24] (by kernel_rfl) (by simp) (fun j hj => ?_)
              obtain rfl : j = 24 := by simpa using hj
              refine late_skip rfl rfl (ev_store 72 68 ⟨p, 1, none⟩ _ ou2 r2 cu2 rfl (by kernel_rfl) (by kernel_rfl) y12 z12) ⟨(fun h => Bool.noConfusion (show true = false from h)), ?_⟩
              refine late_done (by kernel_rfl) ?_
              simp only [Act.put, List.setIfInBounds_toArray]
              go_wp2_with fail
              go_roundw
              case rel => exact ⟨k + 1, M ++ [x], T ++ [y], _, _, by go_num, by omega, RN32.out, FF2.out, HA2.out, by have := HM.out; simp; omega, HT2.out⟩
              case measure => simp [intOf]; omega
    · have hkl : k = n := by omega
      subst hkl
      have hdn : names.drop k = [] := List.drop_eq_nil_of_le (by omega)
      have EN : addN [obj, fault] names = (0, M) := by rw [HA.out, hdn]; rfl
      have hTS : T = supS supers := by rw [HT.out]; unfold supS; rw [List.take_of_length_le (by have := HL.out; omega)]
      have HE2 : Hid (newH names supers = (if (addS M [0, 0] supers).1 ≠ 0 then ((addS M [0, 0] supers).1, [], [])
          else if ring M.length (addS M [0, 0] supers).2 = true then (71, [], []) else (0, M, (addS M [0, 0] supers).2))) := by
        show _ = _
        rw [HE.out, EN]
        rfl
      have FINE : Hid ((addS M [0, 0] supers).1 = 0 → Fine M.length (addS M [0, 0] supers).2) := fun h => by
        have := fine_of (hn.trans HL.out) (by rw [EN]) (by rw [EN]; exact h)
        rw [EN] at this
        exact this
      have RAX : Hid ((addS M [0, 0] supers).1 = 0 → RA M (supS supers) (addS M [0, 0] supers).2) := fun h => by
        have := ra_of (hn.trans HL.out) (by rw [EN]) (by rw [EN]; exact h)
        rw [EN] at this
        exact this
      have ZER : Hid ((addS M [0, 0] supers).2.getD 0 0 = 0) := zero_of M supers
      have PRE : Hid (∃ t, M = [obj, fault] ++ t) := by
        obtain ⟨t, ht⟩ := addN_pre names [obj, fault]
        rw [EN] at ht
        exact ⟨t, ht⟩
      have HS : Hid (∀ i, 2 ≤ i → i < M.length → ∃ y ∈ supers, (supS supers).getD i ByteArray.empty = supOf y) := fun i h2 hi => by
        have hM := HM.out
        have hL := HL.out
        obtain ⟨y, hy⟩ : ∃ y, supers[i - 2]? = some y := ⟨_, List.getElem?_eq_getElem (by omega)⟩
        refine ⟨y, List.mem_of_getElem? hy, ?_⟩
        have := supS_get supers (i - 2) y hy
        rwa [show i - 2 + 2 = i by omega] at this
      have HS' : Hid (∀ y ∈ supers, ∃ i, 2 ≤ i ∧ i < M.length ∧ (supS supers).getD i ByteArray.empty = supOf y) := fun y hy => by
        have hM := HM.out
        have hL := HL.out
        obtain ⟨k', hk'⟩ := List.mem_iff_getElem?.1 hy
        have := (List.getElem?_eq_some_iff.1 hk').1
        exact ⟨k' + 2, by omega, by omega, supS_get supers k' y hk'⟩
      have SLN : Hid ((supS supers).length = M.length) := by
        have hM := HM.out
        have hL := HL.out
        show _ = _
        unfold supS
        simp
        omega
      have ATX : Hid (∀ s, Calls Try.prog 16 #[.pointer (some ⟨p, 0, none⟩), .string s] wr fun e w'' => e = .returned (.int .i64 (plc M s)) ∧ w'' = wr) := fun s => at_any wr p M T RNK.out.rb s
      have RBX : Hid (RB wr p M (supS supers)) := by rw [← hTS]; exact RNK.out.rb
      obtain ⟨on, cn, hon⟩ := RNK.out.one.form
      obtain ⟨d0, d1⟩ := cells2 RNK.out.cells
      obtain ⟨ad, cpv, hvs, -, -, -, hit⟩ := RNK.out.two.sl
      have HIT : Hid (∀ (i : Nat) (x : ByteArray), T[i]? = some x → ∃ b off, ad = some ⟨b, off, none⟩ ∧ wr.cell? ⟨b, off + i, none⟩ = some (.string x)) := hit
      rw [hTS] at HIT hvs
      rw [SLN.out] at hvs
      subst hon hvs
      have hMlen : M.length ≤ 18 := by have := HM.out; omega
      have hM2 : 2 ≤ M.length := by have := HM.out; omega
      clear HA EN hTS HT HE HL HM RNK hdn H1 H2 hit hk hlt
      generalize hml : M.length = m at *
      generalize hSS : supS supers = S at *
      go_wp2_with fail
      go_loop [9] (fun i => ∃ (k : Nat), i = .int .i64 (k : Int) ∧ 1 ≤ k ∧ k ≤ m ∧ ∀ j, 1 ≤ j → j < k → ix (S.getD j ByteArray.empty) M ≠ none) (fun i => m - (intOf i).toNat)
      case atStart => exact ⟨1, rfl, Nat.le_refl _, by omega, fun j h1 h2 => absurd h2 (by omega)⟩
      case round =>
        obtain ⟨k2, rfl, hk1, hkm, hall⟩ := hrel
        have HA2 : Hid (∀ j, 1 ≤ j → j < k2 → ix (S.getD j ByteArray.empty) M ≠ none) := hall
        clear hall
        by_cases hlt2 : k2 < m
        · have hgs : S[k2]? = some (S.getD k2 ByteArray.empty) := getD_at S k2 (by have := SLN.out; omega)
          obtain ⟨b3, off3, rfl, hc3⟩ := HIT.out k2 _ hgs
          have P := ATX.out (S.getD k2 ByteArray.empty)
          have hki : (k2 : Int) < (m : Int) := by omega
          clear hgs
          cases hi : ix (S.getD k2 ByteArray.empty) M with
          | none =>
            have HR : Hid (newH names supers = (70, [], [])) := by
              have hk2 : 2 ≤ k2 := by
                by_cases h1 : k2 = 1
                · exfalso
                  obtain ⟨t, ht⟩ := PRE.out
                  rw [← hSS, h1, ht] at hi
                  have e0 : (supS supers).getD 1 ByteArray.empty = obj := rfl
                  rw [e0] at hi
                  simp [ix] at hi
                · omega
              obtain ⟨y, hy, e⟩ := HS.out k2 hk2 hlt2
              have := addS_no supers [0, 0] ⟨y, hy, by rw [← e]; exact hi⟩
              show _ = _
              rw [HE2.out, this]
              rfl
            have hp : plc M (S.getD k2 ByteArray.empty) = -1 := by unfold plc; rw [hi]
            rw [hp] at P
            clear hi hp
            generalize S.getD k2 ByteArray.empty = sk at *
            go_wp2_with fail
            refine P.mono ?_
            rintro e w1 ⟨rfl, rfl⟩
            go_wp2_with fail
            go_ret2
            rw [HR.out]
            exact ⟨_, rfl, ⟨fun _ => rfl, fun h => by simp at h⟩, F1.out⟩
          | some i =>
            have HN2 : Hid (∀ j, 1 ≤ j → j < k2 + 1 → ix (S.getD j ByteArray.empty) M ≠ none) := fun j h1 h2 => by
              by_cases hj : j < k2
              · exact HA2.out j h1 hj
              · obtain rfl : j = k2 := by omega
                rw [hi]; simp
            have hp : plc M (S.getD k2 ByteArray.empty) = (i : Int) := by unfold plc; rw [hi]
            rw [hp] at P
            clear hi hp
            generalize S.getD k2 ByteArray.empty = sk at *
            go_wp2_with fail
            refine P.mono ?_
            rintro e w1 ⟨rfl, rfl⟩
            go_wp2_with fail
            go_round
            case rel => exact ⟨k2 + 1, by go_num, by omega, by omega, HN2.out⟩
            case measure => simp [intOf]; omega
        · have hkl : k2 = m := by omega
          subst hkl
          have hok : (addS M [0, 0] supers).1 = 0 := addS_ok supers [0, 0] (fun y hy => by
            obtain ⟨i, h2, hi, e⟩ := HS'.out y hy
            rw [← e]
            exact HA2.out i (by omega) hi)
          have FN := FINE.out hok
          have RX : Hid (RA M S (addS M [0, 0] supers).2) := RAX.out hok
          have HE3 : Hid (newH names supers = (if ring k2 (addS M [0, 0] supers).2 = true then (71, [], []) else (0, M, (addS M [0, 0] supers).2))) := by
            show _ = _
            rw [HE2.out, hok]
            rfl
          have FNX : Hid (Fine k2 (addS M [0, 0] supers).2) := FN
          have HSS : Hid (supS supers = S) := hSS
          clear FN FINE RAX HE2 hok HA2 HS HS' hSS
          generalize (addS M [0, 0] supers).2 = A at *
          go_wp2_with fail
          go_loop [10] (fun i => ∃ (k : Nat), i = .int .i64 (k : Int) ∧ 1 ≤ k ∧ k ≤ k2 ∧ ∀ j, 1 ≤ j → j < k → (up A k2 j).2 = true) (fun i => k2 - (intOf i).toNat)
          case atStart => exact ⟨1, rfl, Nat.le_refl _, by omega, fun j h1 h2 => absurd h2 (by omega)⟩
          case round =>
            obtain ⟨k3, rfl, hk31, hk3m, hall3⟩ := hrel
            have HA3 : Hid (∀ j, 1 ≤ j → j < k3 → (up A k2 j).2 = true) := hall3
            clear hall3
            by_cases hlt3 : k3 < k2
            · have hki3 : (k3 : Int) < (k2 : Int) := by omega
              go_wp2_with fail
              go_loop [11, 12] (fun z c => ∃ (q : Nat), c = .int .i64 (q : Int) ∧ z = .int .i64 ((it A q k3 : Nat) : Int) ∧ q ≤ k2 + 1 ∧ ∀ q', q' < q → it A q' k3 ≠ 0) (fun _ c => k2 + 1 - (intOf c).toNat)
              case atStart => exact ⟨0, rfl, rfl, by omega, fun q' h => absurd h (by omega)⟩
              case round =>
                obtain ⟨q, rfl, rfl, hq, hnz⟩ := hrel
                have HNZ : Hid (∀ q', q' < q → it A q' k3 ≠ 0) := hnz
                have hzl : it A q k3 < k2 := it_lt FNX.out hlt3 q
                have ITN : Hid (it A (q + 1) k3 = A.getD (it A q k3) 0) := rfl
                have UT : Hid (it A q k3 = 0 → (up A k2 k3).2 = true) := fun e => up_of_it FNX.out hlt3 e
                have UF : Hid (it A q k3 ≠ 0 → q = k2 + 1 → (up A k2 k3).2 = false) := fun e h => up_not ZER.out (by rw [← h]; exact e)
                clear hnz
                generalize hz : it A q k3 = z at *
                by_cases hz0 : z = 0
                · have HT3 : Hid (∀ j, 1 ≤ j → j < k3 + 1 → (up A k2 j).2 = true) := fun j h1 h2 => by
                    by_cases hj : j < k3
                    · exact HA3.out j h1 hj
                    · obtain rfl : j = k3 := by omega
                      exact UT.out hz0
                  subst hz0
                  clear hz
                  go_wp2_with fail
                  go_round
                  case rel => exact ⟨k3 + 1, by go_num, by omega, by omega, HT3.out⟩
                  case measure => simp [intOf]; omega
                · have hzp : (0 : Int) < (z : Int) := by omega
                  have hzq : ((z : Int) == 0) = false := by simp; omega
                  by_cases hqk : q ≤ k2
                  · have hqi : (q : Int) ≤ (k2 : Int) := by omega
                    have hgs : S[z]? = some (S.getD z ByteArray.empty) := getD_at S z (by have := SLN.out; omega)
                    obtain ⟨b4, off4, rfl, hc4⟩ := HIT.out z _ hgs
                    have P := ATX.out (S.getD z ByteArray.empty)
                    have hp : plc M (S.getD z ByteArray.empty) = ((A.getD z 0 : Nat) : Int) := by unfold plc; rw [RX.out.at_ z (by omega) (by omega)]
                    rw [hp] at P
                    have hzi : (z : Int) < (k2 : Int) := by omega
                    have HNZ2 : Hid (∀ q', q' < q + 1 → it A q' k3 ≠ 0) := fun q' h => by
                      by_cases hq' : q' < q
                      · exact HNZ.out q' hq'
                      · obtain rfl : q' = q := by omega
                        rw [hz]; exact hz0
                    have ITN2 : Hid (it A (q + 1) k3 = A.getD z 0) := ITN.out
                    clear hgs hp hz hz0
                    generalize S.getD z ByteArray.empty = sk at *
                    generalize A.getD z 0 = z2 at *
                    go_wp2_with fail
                    refine P.mono ?_
                    rintro e w1 ⟨rfl, rfl⟩
                    go_wp2_with fail
                    go_round
                    case rel => exact ⟨q + 1, by go_num, by rw [ITN2.out], by omega, HNZ2.out⟩
                    case measure => simp [intOf]; omega
                  · have hqi : ¬ (q : Int) ≤ (k2 : Int) := by omega
                    have HR : Hid (newH names supers = (71, [], [])) := by
                      have := ring_yes hlt3 (UF.out hz0 (by omega))
                      show _ = _
                      rw [HE3.out, if_pos this]
                    clear hz hz0
                    go_wp2_with fail
                    go_ret2
                    rw [HR.out]
                    exact ⟨_, rfl, ⟨fun _ => rfl, fun h => by simp at h⟩, F1.out⟩
            · have hkl : k3 = k2 := by omega
              subst hkl
              have HRG : Hid (∀ i, i < k3 → (up A k3 i).2 = true) := fun i hi => by
                by_cases h0 : i = 0
                · subst h0
                  exact up_of_it (m := 0) FNX.out hi rfl
                · exact HA3.out i (by omega) hi
              have HR : Hid (newH names supers = (0, M, A)) := by
                have := ring_no HRG.out
                show _ = _
                rw [HE3.out, if_neg (by rw [this]; simp)]
              go_wp2_with fail
              go_ret2
              rw [HR.out]
              exact ⟨_, rfl, ⟨fun h => by simp at h, fun _ => ⟨p, rfl, by rw [HSS.out]; exact ⟨RBX.out, by show Fine M.length A; rw [hml]; exact FNX.out, RX.out, by show M.length ≤ 1000; omega, by show ∀ i, i < M.length → (up A M.length i).2 = true; rw [hml]; exact HRG.out⟩⟩⟩, F1.out⟩
end Go.Proofs.Ytabiagheflkiaaa
