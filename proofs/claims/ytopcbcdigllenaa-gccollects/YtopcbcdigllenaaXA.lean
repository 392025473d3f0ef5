/- The function that tells the references, and writes down whom it was asked of. -/
import Derived.Test.YtopcbcdigllenaaH2
import Derived.Test.YtopcbcdigllenaaRi
import Derived.Test.YtopcbcdigllenaaW0
import Derived.Deep.RegionWith
import Derived.Deep.QuietTactic
import Derived.BigQuiet
namespace Go.Proofs.Ytopcbcdigllenaa
open Go.ChangeShapes Go.WideShapes Go.ChangeAt Go.RowKit

/-- Where the edges from an address lead to. -/
def edgT : List Int → List Int → Int → List Int
  | f :: fs, t :: ts, a => if f = a then t :: edgT fs ts a else edgT fs ts a
  | _, _, _ => []

def cE (fs ts : List Int) (a : Int) : List Int := [0, -5] ++ edgT fs ts a

theorem edgT_take (fs ts : List Int) (a : Int) (i : Nat) (f t : Int) (hf : fs[i]? = some f) (ht : ts[i]? = some t) : edgT (fs.take (i + 1)) (ts.take (i + 1)) a = edgT (fs.take i) (ts.take i) a ++ (if f = a then [t] else []) := by
  induction fs generalizing ts i with
  | nil => simp at hf
  | cons x xs ih =>
    cases ts with
    | nil => simp at ht
    | cons y ys =>
      cases i with
      | zero =>
        simp only [List.getElem?_cons_zero, Option.some.injEq] at hf ht
        subst hf ht
        simp only [List.take_succ_cons, List.take_zero, edgT, List.nil_append]
      | succ i =>
        simp only [List.getElem?_cons_succ] at hf ht
        have := ih ys i hf ht
        simp only [List.take_succ_cons, edgT]
        split
        · rw [this]
          simp
        · exact this

theorem edgT_len (fs ts : List Int) (a : Int) : (edgT fs ts a).length ≤ fs.length := by
  induction fs generalizing ts with
  | nil => simp [edgT]
  | cons x xs ih =>
    cases ts with
    | nil => simp [edgT]
    | cons y ys =>
      have := ih ys
      simp only [edgT]
      split
      · simp only [List.length_cons]
        omega
      · simp only [List.length_cons]
        omega

/-- The function's memory: three variables, and a row in each. -/
structure Jc (ca cf ct : Nat) (fs ts : List Int) (js : List Int) (B : Nat → Prop) (w : World) (va vf vt : Value) : Prop where
  ha : w.heap[ca]? = some (.cells #[va] 52 (0, 0))
  hf : w.heap[cf]? = some (.cells #[vf] 52 (0, 0))
  ht : w.heap[ct]? = some (.cells #[vt] 52 (0, 0))
  oa : OwnG elI w va js
  of : OwnG elI w vf fs
  ot : OwnG elI w vt ts
  ne1 : ca ≠ cf
  ne2 : ca ≠ ct
  ap1 : ∀ k, va.ownBlock = some k → vf.ownBlock ≠ some k
  ap2 : ∀ k, va.ownBlock = some k → vt.ownBlock ≠ some k
  b : ∀ x, B x ↔ x = ca ∨ x = cf ∨ x = ct ∨ va.ownBlock = some x ∨ vf.ownBlock = some x ∨ vt.ownBlock = some x

theorem Jc.kept {ca cf ct : Nat} {fs ts js : List Int} {B S : Nat → Prop} {w w' : World} {va vf vt : Value} (h : Jc ca cf ct fs ts js B w va vf vt) (f : Fr S w w') (hS : ∀ k, B k → ¬ S k) : Jc ca cf ct fs ts js B w' va vf vt :=
  ⟨f.heap h.ha (hS ca ((h.b ca).2 (.inl rfl))), f.heap h.hf (hS cf ((h.b cf).2 (.inr (.inl rfl)))), f.heap h.ht (hS ct ((h.b ct).2 (.inr (.inr (.inl rfl))))),
    h.oa.kept f (fun k hk => hS k ((h.b k).2 (.inr (.inr (.inr (.inl hk)))))), h.of.kept f (fun k hk => hS k ((h.b k).2 (.inr (.inr (.inr (.inr (.inl hk))))))), h.ot.kept f (fun k hk => hS k ((h.b k).2 (.inr (.inr (.inr (.inr (.inr hk))))))),
    h.ne1, h.ne2, h.ap1, h.ap2, h.b⟩

/-- One more was asked. -/
theorem Jc.push {ca cf ct : Nat} {fs ts js : List Int} {B : Nat → Prop} {w w' : World} {va vf vt v' : Value} {js' : List Int} (h : Jc ca cf ct fs ts js B w va vf vt) (o : OwnG elI w' v' js') (s : Sp va w v' w') :
    ∃ B', Jc ca cf ct fs ts js' B' (w'.setCell ⟨ca, 0, none⟩ v') v' vf vt ∧ Fr B w (w'.setCell ⟨ca, 0, none⟩ v') ∧ ∀ k, k < w.heap.size → B' k → B k := by
  have f : Fr (fun k => k = ca) w' (w'.setCell ⟨ca, 0, none⟩ v') := Fr.one ⟨ca, 0, none⟩ _
  have n1 : va.ownBlock ≠ some ca := own_not h.oa h.ha (by decide)
  have n2 : va.ownBlock ≠ some cf := own_not h.oa h.hf (by decide)
  have n3 : va.ownBlock ≠ some ct := own_not h.oa h.ht (by decide)
  have ha' := s.1.heap h.ha n1
  have hf' := s.1.heap h.hf n2
  have ht' := s.1.heap h.ht n3
  have of' := h.of.kept s.1 (fun k hk e => h.ap1 k e hk)
  have ot' := h.ot.kept s.1 (fun k hk e => h.ap2 k e hk)
  refine ⟨fun x => x = ca ∨ x = cf ∨ x = ct ∨ v'.ownBlock = some x ∨ vf.ownBlock = some x ∨ vt.ownBlock = some x, ⟨setCell_heap ha' _, f.heap hf' (fun e => h.ne1 e.symm), f.heap ht' (fun e => h.ne2 e.symm), o.kept f (fun k hk e => own_not o ha' (by decide) (by rw [hk, e])), of'.kept f (fun k hk e => own_not of' ha' (by decide) (by rw [hk, e])), ot'.kept f (fun k hk e => own_not ot' ha' (by decide) (by rw [hk, e])), h.ne1, h.ne2, fun k hk e => ?_, fun k hk e => ?_, fun x => Iff.rfl⟩, s.1.trans f (fun k _ e => (h.b k).2 (.inr (.inr (.inr (.inl e))))) (fun k _ e => (h.b k).2 (.inl e)), fun k hk e => ?_⟩
  · exact h.ap1 k (s.2 k (h.of.lt e) hk) e
  · exact h.ap2 k (s.2 k (h.ot.lt e) hk) e
  · rw [h.b]
    rcases e with e | e | e | e | e | e
    · exact .inl e
    · exact .inr (.inl e)
    · exact .inr (.inr (.inl e))
    · exact .inr (.inr (.inr (.inl (s.2 k hk e))))
    · exact .inr (.inr (.inr (.inr (.inl e))))
    · exact .inr (.inr (.inr (.inr (.inr e))))

theorem Jc.pushed {ca cf ct : Nat} {fs ts js : List Int} {B : Nat → Prop} {w w' : World} {va vf vt v' : Value} {js' : List Int} (h : Jc ca cf ct fs ts js B w va vf vt) (o : OwnG elI w' v' js') (s : Sp va w v' w') : ∃ o' c', v' = .slice o' js'.length c' ∧ w'.frozen? ⟨ca, 0, none⟩ = false ∧ w'.cell? ⟨ca, 0, none⟩ = some va := by
  obtain ⟨o', c', e⟩ := o.form
  have := s.1.heap h.ha (own_not h.oa h.ha (by decide))
  exact ⟨o', c', e, by simp [World.frozen?, this], by simp [World.cell?, this]⟩

set_option maxHeartbeats 4000000 in
set_option maxRecDepth 100000 in
theorem refs_any (ca cf ct : Nat) (fs ts js : List Int) (B : Nat → Prop) (w : World) (va vf vt : Value) (h : Jc ca cf ct fs ts js B w va vf vt) (hl : fs.length = ts.length) (hn : fs.length ≤ 100) (hj : js.length ≤ 900000) (a : Int) :
    Calls Try.prog 23 #[.int .i64 a, .pointer (some ⟨ca, 0, none⟩), .pointer (some ⟨cf, 0, none⟩), .pointer (some ⟨ct, 0, none⟩)] w fun e w' => ∃ v B' va', e = .returned v ∧ OwnG elI w' v (cE fs ts a) ∧ NewV w v ∧ Jc ca cf ct fs ts (js ++ [a]) B' w' va' vf vt ∧ Fr B w w' ∧ ∀ k, k < w.heap.size → B' k → B k := by
  have c1 : w.cell? ⟨ca, 0, none⟩ = some va := by simp [World.cell?, h.ha]
  have HJ : Hid (Jc ca cf ct fs ts js B w va vf vt) := h
  have HO1 : Hid (OwnG elI (w.alloc (.cells (elI.f a).toArray elI.e)) va js) := h.oa.keep ((Fr.refl no w).alloc _ _)
  have J1 : Jc ca cf ct fs ts js B (w.alloc (.cells (elI.f a).toArray elI.e)) va vf vt := h.kept ((Fr.refl no w).alloc _ _) (fun _ _ f => f)
  have HJ1 : Hid (Jc ca cf ct fs ts js B (w.alloc (.cells (elI.f a).toArray elI.e)) va vf vt) := J1
  clear h J1
  go_enter Try.func23, Try.ntmps23
  go_upto_region 2 with (at_builtin; refine wpList_apdG elI_ok _ rfl rfl _ _ rfl va js rfl HO1.out _ rfl [a] (srcG_one elI_ok w a) (by simp; omega) ?_; intro v' w3 o3 s3; obtain ⟨o', c', hv', q1, q2⟩ := HJ1.out.pushed o3 s3; subst hv'; have O3 : Hid (OwnG elI w3 (.slice o' (js ++ [a]).length c') (js ++ [a]) ∧ Sp va (w.alloc (.cells (elI.f a).toArray elI.e)) (.slice o' (js ++ [a]).length c') w3) := ⟨o3, s3⟩; clear o3 s3; generalize (js ++ [a]).length = jl at *)
  obtain ⟨B', J4, f4, b4⟩ := HJ1.out.push O3.out.1 O3.out.2
  have F4 : Fr B w (w3.setCell ⟨ca, 0, none⟩ (.slice o' jl c')) := ((Fr.refl no w).alloc (elI.f a).toArray elI.e).trans f4 (fun _ _ x => x.elim) (fun _ _ x => x)
  have H4 : Hid (Jc ca cf ct fs ts (js ++ [a]) B' (w3.setCell ⟨ca, 0, none⟩ (.slice o' jl c')) (.slice o' jl c') vf vt ∧ Fr B w (w3.setCell ⟨ca, 0, none⟩ (.slice o' jl c')) ∧ ∀ k, k < w.heap.size → B' k → B k) := ⟨J4, F4, fun k hk hb => b4 k (by have := ((Fr.refl no w).alloc (elI.f a).toArray elI.e).size; omega) hb⟩
  clear J4 f4 b4 F4 q1 q2 c1 HJ HO1 HJ1 O3
  revert H4
  generalize (w3.setCell ⟨ca, 0, none⟩ (.slice o' jl c')) = w4
  intro H4
  clear w3
  have L := lit_own w4 [0, -5] #[.int .i64 0, .int .i64 (-5)] rfl 2 rfl (by simp)
  have H5 : Hid (Jc ca cf ct fs ts (js ++ [a]) B' (w4.alloc (.cells #[.int .i64 0, .int .i64 (-5)] 3)) (.slice o' jl c') vf vt ∧ Fr B w (w4.alloc (.cells #[.int .i64 0, .int .i64 (-5)] 3)) ∧ OwnG elI (w4.alloc (.cells #[.int .i64 0, .int .i64 (-5)] 3)) (.slice (some ⟨w4.heap.size, 0, none⟩) 2 2) [0, -5] ∧ w.heap.size ≤ w4.heap.size ∧ w4.heap.size ≤ (w4.alloc (.cells #[.int .i64 0, .int .i64 (-5)] 3)).heap.size) := ⟨H4.out.1.kept L.2.2 (fun _ _ f => f), H4.out.2.1.trans L.2.2 (fun _ _ x => x) (fun _ _ x => x.elim), L.1, H4.out.2.1.size, L.2.2.size⟩
  have HB : Hid (∀ k, k < w.heap.size → B' k → B k) := H4.out.2.2
  clear L
  go_wp2_with fail
  revert H5
  generalize hW5 : w4.alloc (.cells #[.int .i64 0, .int .i64 (-5)] 3) = w5
  intro H5
  have HLT : Hid (∀ k, B' k → k < w4.heap.size) := fun k hb => by
    have j := H4.out.1
    rcases (j.b k).1 hb with e | e | e | e | e | e
    · rw [e]; exact lt_of_heap j.ha
    · rw [e]; exact lt_of_heap j.hf
    · rw [e]; exact lt_of_heap j.ht
    · exact j.oa.lt e
    · exact j.of.lt e
    · exact j.ot.lt e
  clear H4 hW5
  generalize w4.heap.size = z4 at *
  clear w4
  generalize hfl : fs.length = n at *
  go_loopw [6, 7] (fun lv i wr => ∃ t : Nat, i = .int .i64 (t : Int) ∧ t ≤ n ∧ Jc ca cf ct fs ts (js ++ [a]) B' wr (.slice o' jl c') vf vt ∧ Fr B w wr ∧ OwnG elI wr lv ([0, -5] ++ edgT (fs.take t) (ts.take t) a) ∧ (∀ k, lv.ownBlock = some k → z4 ≤ k) ∧ z4 ≤ wr.heap.size) (fun _ i _ => n - (intOf i).toNat)
  case atStart =>
    obtain ⟨y1, y2, y3, y4, y5⟩ := H5.out
    refine ⟨0, rfl, Nat.zero_le _, y1, y2, ?_, fun k hk => ?_, y5⟩
    · simpa [edgT] using y3
    · simp [Value.ownBlock] at hk
      omega
  case round =>
    have HZ : Hid (w.heap.size ≤ z4) := H5.out.2.2.2.1
    clear H5
    obtain ⟨t, rfl, htn, hj, hfr, how, hnv, hzw⟩ := hrel
    have hcf : wr.cell? ⟨cf, 0, none⟩ = some vf := by simp [World.cell?, hj.hf]
    have hct : wr.cell? ⟨ct, 0, none⟩ = some vt := by simp [World.cell?, hj.ht]
    obtain ⟨of, cpf, hvf⟩ := hj.of.form
    obtain ⟨ot, cpt, hvt⟩ := hj.ot.form
    subst hvf hvt
    rw [hfl] at hcf
    rw [← hl] at hct
    by_cases hti : t < n
    · have hti' : (t : Int) < (n : Int) := by omega
      obtain ⟨f, hf⟩ : ∃ f, fs[t]? = some f := ⟨_, List.getElem?_eq_getElem (by omega)⟩
      obtain ⟨u, hu⟩ : ∃ u, ts[t]? = some u := ⟨_, List.getElem?_eq_getElem (by omega)⟩
      have hnx := edgT_take fs ts a t f u hf hu
      obtain ⟨b0, o0, hov, hcx⟩ := (hj.of.rd elI_ok).at1 (u := .int .i64 f) rfl rfl hf
      obtain ⟨b1, o1, hov1, hcy⟩ := (hj.ot.rd elI_ok).at1 (u := .int .i64 u) rfl rfl hu
      have hel : (edgT (fs.take t) (ts.take t) a).length ≤ 100 := by
        have h1 := edgT_len (fs.take t) (ts.take t) a
        rw [List.length_take] at h1
        omega
      have HX : Hid (Jc ca cf ct fs ts (js ++ [a]) B' wr (.slice o' jl c') (.slice of fs.length cpf) (.slice ot ts.length cpt) ∧ Fr B w wr ∧ OwnG elI wr u6 ([0, -5] ++ edgT (fs.take t) (ts.take t) a) ∧ (∀ k, u6.ownBlock = some k → z4 ≤ k)) := ⟨hj, hfr, how, hnv⟩
      clear hj hfr how hnv hf hu
      subst hov hov1
      by_cases hfa : f = a
      · rw [if_pos hfa] at hnx
        have hd : (f == a) = true := by simp [hfa]
        have HN : Hid _ := hnx
        have HO1 : Hid (OwnG elI (wr.alloc (.cells (elI.f u).toArray elI.e)) u6 ([0, -5] ++ edgT (fs.take t) (ts.take t) a)) := HX.out.2.2.1.keep ((Fr.refl no wr).alloc _ _)
        clear hnx hfa
        go_wp2_with (at_builtin; refine wpList_apdG elI_ok _ rfl rfl _ _ rfl u6 ([0, -5] ++ edgT (fs.take t) (ts.take t) a) rfl HO1.out _ rfl [u] (srcG_one elI_ok wr u) (by simp; omega) ?_; intro v' w6 o6 s6; have H6 : Hid (OwnG elI w6 v' (([0, -5] ++ edgT (fs.take t) (ts.take t) a) ++ [u]) ∧ Sp u6 (wr.alloc (.cells (elI.f u).toArray elI.e)) v' w6) := ⟨o6, s6⟩; clear o6 s6)
        go_roundw
        case rel =>
          obtain ⟨y1, y2, y3, y4⟩ := HX.out
          obtain ⟨o6, s6⟩ := H6.out
          have fA : Fr no wr (wr.alloc (.cells (elI.f u).toArray elI.e)) := (Fr.refl no wr).alloc _ _
          have fz := y2.size
          have fz2 := fA.size
          refine ⟨t + 1, by go_num, by omega, (y1.kept fA (fun _ _ f => f)).kept s6.1 (fun k hb e => ?_), (y2.trans fA (fun _ _ x => x) (fun _ _ x => x.elim)).trans s6.1 (fun _ _ x => x) (fun k hk e => ?_), ?_, fun k hk => ?_, by have := s6.1.size; omega⟩
          · have := HLT.out k hb
            have := y4 k e
            omega
          · have := y4 k e
            have := HZ.out
            omega
          · rw [HN.out, ← List.append_assoc]
            exact o6
          · by_cases hlt : k < (wr.alloc (.cells (elI.f u).toArray elI.e)).heap.size
            · exact y4 k (s6.2 k hlt hk)
            · omega
        case measure => simp [intOf]; omega
      · rw [if_neg hfa, List.append_nil] at hnx
        have hd : (f == a) = false := by simp [hfa]
        have HN : Hid _ := hnx
        clear hnx hfa
        go_wp2_with fail
        go_roundw
        case rel => exact ⟨t + 1, by go_num, by omega, HX.out.1, HX.out.2.1, by rw [HN.out]; exact HX.out.2.2.1, HX.out.2.2.2, hzw⟩
        case measure => simp [intOf]; omega
    · obtain rfl : t = n := by omega
      have HR : Hid (Jc ca cf ct fs ts (js ++ [a]) B' wr (.slice o' jl c') (.slice of fs.length cpf) (.slice ot ts.length cpt) ∧ Fr B w wr ∧ OwnG elI wr u6 (cE fs ts a) ∧ (∀ k, u6.ownBlock = some k → z4 ≤ k)) := by
        rw [List.take_of_length_le (by omega), List.take_of_length_le (by omega)] at how
        exact ⟨hj, hfr, how, hnv⟩
      clear hj hfr how hnv
      go_wp2_with fail
      go_ret
      obtain ⟨y1, y2, y3, y4⟩ := HR.out
      exact ⟨_, B', _, rfl, y3, fun k hk => by have := y4 k hk; have := HZ.out; omega, y1, y2, HB.out⟩
/-- What holds of the world behind so many questions. -/
def Jcc (ca cf ct : Nat) (fs ts : List Int) (vf vt : Value) (js : List Int) (B : Nat → Prop) (w : World) : Prop := ∃ va, Jc ca cf ct fs ts js B w va vf vt

theorem cRefs (ca cf ct : Nat) (fs ts : List Int) (vf vt : Value) (hl : fs.length = ts.length) (hn : fs.length ≤ 100) : Refs 23 #[.pointer (some ⟨ca, 0, none⟩), .pointer (some ⟨cf, 0, none⟩), .pointer (some ⟨ct, 0, none⟩)] (cE fs ts) (Jcc ca cf ct fs ts vf vt) 900000 where
  en := fun a w => rfl
  call := fun w js B a hj hlt _ _ => by
    show Calls Try.prog 23 #[.int .i64 a, .pointer (some ⟨ca, 0, none⟩), .pointer (some ⟨cf, 0, none⟩), .pointer (some ⟨ct, 0, none⟩)] w _
    obtain ⟨va, h⟩ := hj
    refine (refs_any ca cf ct fs ts js B w va vf vt h hl hn (by omega) a).mono ?_
    rintro e w' ⟨v, B', va', rfl, h1, h2, h3, h4, h5⟩
    exact ⟨v, B', rfl, h1, h2, ⟨va', h3⟩, h4, h5⟩
  keep := fun w w' js B T h f hB => by
    obtain ⟨va, h⟩ := h
    exact ⟨va, h.kept f hB⟩
  lt := fun w js B h k hb => by
    obtain ⟨va, j⟩ := h
    rcases (j.b k).1 hb with e | e | e | e | e | e
    · rw [e]; exact lt_of_heap j.ha
    · rw [e]; exact lt_of_heap j.hf
    · rw [e]; exact lt_of_heap j.ht
    · exact j.oa.lt e
    · exact j.of.lt e
    · exact j.ot.lt e
  len := fun a => by
    have := edgT_len fs ts a
    unfold cE
    rw [List.length_append]
    simp only [List.length_cons, List.length_nil]
    omega
end Go.Proofs.Ytopcbcdigllenaa

/- What the document's own walk finds. -/
namespace Go.Proofs.Ytopcbcdigllenaa
open Go.ChangeShapes Go.WideShapes Go.ChangeAt Go.RowKit

def elZ : El Bool := ⟨58, 4, 1, .bool false, 1, fun b => [.bool b]⟩
theorem elZ_ok : elZ.Ok where
  und := Try.underlying58
  info := by kernel_rfl
  len := fun _ => rfl
  one := fun x u hu => by simp [elZ] at hu; subst hu; rfl
  zlen := by kernel_rfl
  bs := by decide
  pos := by decide

theorem edgT_mem (fs ts : List Int) (a u : Int) : u ∈ edgT fs ts a ↔ ∃ i : Nat, fs[i]? = some a ∧ ts[i]? = some u := by
  induction fs generalizing ts with
  | nil => simp [edgT]
  | cons x xs ih =>
    cases ts with
    | nil => simp [edgT]
    | cons y ys =>
      simp only [edgT]
      constructor
      · intro h
        split at h
        · rename_i e
          rcases List.mem_cons.1 h with h | h
          · exact ⟨0, by simp [e], by simp [h]⟩
          · obtain ⟨i, h1, h2⟩ := (ih ys).1 h
            exact ⟨i + 1, by simpa using h1, by simpa using h2⟩
        · obtain ⟨i, h1, h2⟩ := (ih ys).1 h
          exact ⟨i + 1, by simpa using h1, by simpa using h2⟩
      · rintro ⟨i, h1, h2⟩
        cases i with
        | zero =>
          simp only [List.getElem?_cons_zero, Option.some.injEq] at h1 h2
          rw [if_pos h1, h2]
          exact List.mem_cons_self
        | succ i =>
          simp only [List.getElem?_cons_succ] at h1 h2
          have := (ih ys).2 ⟨i, h1, h2⟩
          split
          · exact List.mem_cons_of_mem _ this
          · exact this

def atsO (T : List Ob) : List Int := T.map (·.at_)

theorem find_mem {T : List Ob} {a : Int} (h : a ∈ atsO T) : ∃ k, findO T a = some k := by
  cases hf : findO T a with
  | some k => exact ⟨k, rfl⟩
  | none =>
    unfold findO at hf
    rw [List.findIdx?_eq_none_iff] at hf
    obtain ⟨o, h1, h2⟩ := List.mem_map.1 h
    have := hf o h1
    simp at this
    exact absurd h2 this

theorem find_uniq {T : List Ob} (hn : (atsO T).Nodup) {k j : Nat} {x : Ob} (hx : T[k]? = some x) (hf : findO T x.at_ = some j) : j = k := by
  obtain ⟨y, hy, he, hl⟩ := find_split hf
  have h1 : (atsO T)[j]? = some x.at_ := by unfold atsO; rw [List.getElem?_map, hy, ← he]; rfl
  have h2 : (atsO T)[k]? = some x.at_ := by unfold atsO; rw [List.getElem?_map, hx]; rfl
  have hjl : j < (atsO T).length := (List.getElem?_eq_some_iff.1 h1).1
  exact (List.getElem?_inj hjl hn).1 (h1.trans h2.symm)

structure Rz (T : List Ob) (fs ts R : List Int) (Z : List Bool) : Prop where
  len : Z.length = T.length
  snd : ∀ (k : Nat) (x : Ob), T[k]? = some x → Z[k]? = some true → Reach (cE fs ts) (atsO T) R x.at_

def rtOK (T : List Ob) (R : List Int) (Z : List Bool) (t : Nat) : Prop := ∀ (i : Nat) (a : Int) (k : Nat), i < t → R[i]? = some a → findO T a = some k → Z[k]? = some true

def edOK (T : List Ob) (fs ts : List Int) (Z : List Bool) (t : Nat) : Prop := ∀ (i : Nat) (f u : Int) (a b : Nat), i < t → fs[i]? = some f → ts[i]? = some u → findO T f = some a → findO T u = some b → Z[a]? = some true → Z[b]? = some true

theorem set_true {Z : List Bool} {k j : Nat} (h : Z[j]? = some true) : (Z.set k true)[j]? = some true := by
  rw [List.getElem?_set]
  split
  · rename_i e
    subst e
    rw [if_pos (List.getElem?_eq_some_iff.1 h).1]
  · exact h

theorem Rz.mark {T : List Ob} {fs ts R : List Int} {Z : List Bool} (h : Rz T fs ts R Z) {k : Nat} {x : Ob} (hx : T[k]? = some x) (hr : Reach (cE fs ts) (atsO T) R x.at_) : Rz T fs ts R (Z.set k true) ∧ (Z.set k true)[k]? = some true := by
  have hk : k < Z.length := by rw [h.len]; exact (List.getElem?_eq_some_iff.1 hx).1
  refine ⟨⟨by rw [List.length_set]; exact h.len, fun j y hy hz => ?_⟩, by simp [hk]⟩
  rw [List.getElem?_set] at hz
  split at hz
  · rename_i e
    subst e
    rw [hx] at hy
    simp only [Option.some.injEq] at hy
    subst hy
    exact hr
  · exact h.snd j y hy hz

theorem Rz.start (T : List Ob) (fs ts R : List Int) : Rz T fs ts R (List.replicate T.length false) := by
  refine ⟨by simp, fun k x _ hz => ?_⟩
  rw [List.getElem?_replicate] at hz
  split at hz <;> simp at hz

theorem rtOK.set {T : List Ob} {R : List Int} {Z : List Bool} {t : Nat} (h : rtOK T R Z t) (k : Nat) : rtOK T R (Z.set k true) t := fun i a j h1 h2 h3 => set_true (h i a j h1 h2 h3)

theorem Rz.root {T : List Ob} {fs ts R : List Int} {a : Int} {k : Nat} (ha : a ∈ R) (hf : findO T a = some k) : ∃ x, T[k]? = some x ∧ Reach (cE fs ts) (atsO T) R x.at_ := by
  obtain ⟨x, hx, he, -⟩ := find_split hf
  refine ⟨x, hx, ?_⟩
  rw [he]
  refine .root ha ?_
  rw [← he]
  exact List.mem_map.2 ⟨x, List.mem_of_getElem? hx, rfl⟩

theorem Rz.edge {T : List Ob} {fs ts R : List Int} {Z : List Bool} (h : Rz T fs ts R Z) {i : Nat} {f u : Int} {a b : Nat} (hf : fs[i]? = some f) (hu : ts[i]? = some u) (ha : findO T f = some a) (hb : findO T u = some b) (hz : Z[a]? = some true) : ∃ x, T[b]? = some x ∧ Reach (cE fs ts) (atsO T) R x.at_ := by
  obtain ⟨x, hx, he, -⟩ := find_split ha
  obtain ⟨y, hy, he2, -⟩ := find_split hb
  refine ⟨y, hy, .step (h.snd a x hx hz) ?_ (List.mem_map.2 ⟨y, List.mem_of_getElem? hy, rfl⟩)⟩
  unfold cE
  rw [he, he2]
  exact List.mem_append_right _ ((edgT_mem fs ts f u).2 ⟨i, hf, hu⟩)

theorem Rz.done {T : List Ob} {fs ts R : List Int} {Z : List Bool} (h : Rz T fs ts R Z) (hn : (atsO T).Nodup) (hp : ∀ x ∈ T, 1 ≤ x.at_) (hr : rtOK T R Z R.length) (he : edOK T fs ts Z fs.length) : ∀ (k : Nat) (x : Ob), T[k]? = some x → (Z[k]? = some true ↔ Reach (cE fs ts) (atsO T) R x.at_) := by
  have key : ∀ a, Reach (cE fs ts) (atsO T) R a → ∃ k, findO T a = some k ∧ Z[k]? = some true := fun a ha => by
    induction ha with
    | root h1 h2 =>
      obtain ⟨k, hk⟩ := find_mem h2
      obtain ⟨i, hi⟩ := List.mem_iff_getElem?.1 h1
      exact ⟨k, hk, hr i _ k (List.getElem?_eq_some_iff.1 hi).1 hi hk⟩
    | step h1 h2 h3 ih =>
      obtain ⟨k, hk, hz⟩ := ih
      obtain ⟨j, hj⟩ := find_mem h3
      refine ⟨j, hj, ?_⟩
      unfold cE at h2
      rcases List.mem_append.1 h2 with h2 | h2
      · obtain ⟨x, hx, ex, -⟩ := find_split hj
        have := hp x (List.mem_of_getElem? hx)
        simp at h2
        omega
      · obtain ⟨i, e1, e2⟩ := (edgT_mem fs ts _ _).1 h2
        exact he i _ _ k j (List.getElem?_eq_some_iff.1 e1).1 e1 e2 hk hj hz
  intro k x hx
  refine ⟨h.snd k x hx, fun hr => ?_⟩
  obtain ⟨j, hj, hz⟩ := key _ hr
  rw [← find_uniq hn hx hj]
  exact hz

theorem made_zeroZ (n : Nat) : madeCells (Value.bool false).cells n = (cg elZ (List.replicate n false)).toArray := by
  have e1 : cg elZ (List.replicate n false) = List.replicate n (Value.bool false) := by
    induction n with
    | zero => rfl
    | succ n ih =>
      have : cg elZ (List.replicate (n + 1) false) = elZ.f false ++ cg elZ (List.replicate n false) := rfl
      rw [this, ih]
      rfl
  rw [e1]
  have e2 : (Value.bool false).cells = #[Value.bool false] := rfl
  rw [e2]
  unfold madeCells
  apply Array.ext
  · simp
  · intro i h1 h2
    simp [Nat.mod_one]

theorem run_newZ (w : World) (n : Nat) (h : n ≤ 4096) :
    (Instr.makeSlice 58 (.int .i64 (n : Int)) (.int .i64 (n : Int))).run Try.prog w = .ok (.slice (some ⟨w.heap.size, 0, none⟩) n n) (w.alloc (.cells (cg elZ (List.replicate n false)).toArray 4)) := by
  obtain ⟨i0, hi, hz0, hz1, hz2⟩ := info_parts elZ_ok.info
  have hb : i0.bytes = 1 := hz2
  have hs : i0.size = 1 := hz1
  have := _root_.Go.run_make w 58 4 i0 (.bool false) elZ_ok.und hi hz0 .i64 .i64 (n : Int) (n : Int) (by omega) (by omega) (by rw [hb]; omega) (by omega)
  rw [hs] at this
  simp only [Int.toNat_natCast, Nat.mul_one] at this
  rw [this, made_zeroZ]

theorem cgZ_inj {a b : List Bool} (h : cg elZ a = cg elZ b) : a = b := by
  induction a generalizing b with
  | nil =>
    cases b with
    | nil => rfl
    | cons y ys => simp [cg, elZ] at h
  | cons x xs ih =>
    cases b with
    | nil => simp [cg, elZ] at h
    | cons y ys =>
      have e1 : cg elZ (x :: xs) = .bool x :: cg elZ xs := rfl
      have e2 : cg elZ (y :: ys) = .bool y :: cg elZ ys := rfl
      rw [e1, e2] at h
      simp only [List.cons.injEq, Value.bool.injEq] at h
      rw [h.1, ih h.2]

theorem ownZ_uniq {w : World} {v : Value} {a b : List Bool} (h : OwnG elZ w v a) (k : OwnG elZ w v b) : a = b := by
  rcases h with ⟨rfl, rfl⟩ | ⟨g, o, c, cur, rfl, h1, h2, h3, h4, h5⟩
  · rcases k with ⟨-, rfl⟩ | ⟨g, o, c, cur, e, -⟩
    · rfl
    · simp at e
  · rcases k with ⟨e, -⟩ | ⟨g', o', c', cur', e, k1, k2, k3, k4, k5⟩
    · simp at e
    · simp only [Value.slice.injEq, Option.some.injEq, Addr.mk.injEq] at e
      obtain ⟨⟨rfl, rfl, _⟩, el, rfl⟩ := e
      rw [h1] at k1
      simp only [Option.some.injEq, Obj.cells.injEq] at k1
      obtain ⟨rfl, -⟩ := k1
      rw [← el, h5] at k5
      exact cgZ_inj k5

/-- How many are still unseen. -/
noncomputable def cntF (v : Value) (w : World) : Nat := by
  classical
  exact if h : ∃ Z, OwnG elZ w v Z then h.choose.count false else 0

theorem cntF_eq {v : Value} {w : World} {Z : List Bool} (h : OwnG elZ w v Z) : cntF v w = Z.count false := by
  unfold cntF
  have he : ∃ Z, OwnG elZ w v Z := ⟨Z, h⟩
  rw [dif_pos he, ownZ_uniq he.choose_spec h]

theorem count_set {Z : List Bool} {k : Nat} (h : Z[k]? = some false) : (Z.set k true).count false < Z.count false := by
  obtain ⟨hl, hx⟩ := List.getElem?_eq_some_iff.1 h
  have hc := List.count_set (a := true) (b := false) (l := Z) (i := k) hl
  have hm : 0 < Z.count false := List.count_pos_iff.2 (by rw [← hx]; exact List.getElem_mem hl)
  simp only [hx] at hc
  simp at hc
  omega
end Go.Proofs.Ytopcbcdigllenaa

/- The document's own walk: one pass over the edges. -/
namespace Go.Proofs.Ytopcbcdigllenaa
open Go.ChangeShapes Go.WideShapes Go.ChangeAt Go.RowKit

theorem setZ {w wr : World} {b n : Nat} {Z : List Bool} (hb : w.heap.size ≤ b) (h : OwnG elZ wr (.slice (some ⟨b, 0, none⟩) n n) Z) (f : Fr no w wr) (k : Nat) : OwnG elZ (wr.setCell ⟨b, 0 + k, none⟩ (.bool true)) (.slice (some ⟨b, 0, none⟩) n n) (Z.set k true) ∧ Fr no w (wr.setCell ⟨b, 0 + k, none⟩ (.bool true)) :=
  ⟨h.put1 elZ_ok rfl k rfl, f.new (Fr.one ⟨b, 0 + k, none⟩ _) (fun i hi e => by simp only at e; omega)⟩

theorem rtOK.next {T : List Ob} {R : List Int} {Z : List Bool} {t : Nat} (h : rtOK T R Z t) {a : Int} (ha : R[t]? = some a) (hk : ∀ k, findO T a = some k → Z[k]? = some true) : rtOK T R Z (t + 1) := fun i b k h1 h2 h3 => by
  by_cases e : i = t
  · subst e
    rw [ha] at h2
    simp only [Option.some.injEq] at h2
    subst h2
    exact hk k h3
  · exact h i b k (by omega) h2 h3

theorem edOK.next {T : List Ob} {fs ts : List Int} {Z : List Bool} {t : Nat} (h : edOK T fs ts Z t) {f u : Int} (hf : fs[t]? = some f) (hu : ts[t]? = some u) (hk : ∀ a b, findO T f = some a → findO T u = some b → Z[a]? = some true → Z[b]? = some true) : edOK T fs ts Z (t + 1) := fun i f' u' a b h1 h2 h3 h4 h5 h6 => by
  by_cases e : i = t
  · subst e
    rw [hf] at h2
    rw [hu] at h3
    simp only [Option.some.injEq] at h2 h3
    subst h2 h3
    exact hk a b h4 h5 h6
  · exact h i f' u' a b (by omega) h2 h3 h4 h5 h6

def oneIf : Value → Nat
  | .bool true => 1
  | _ => 0

noncomputable def c_innerC : Code := ((Try.f24.body.bind (blockOf 4)).getD .skip)

set_option maxRecDepth 100000 in
set_option maxHeartbeats 8000000 in
theorem c_inner (w wz : World) (q g bz tl fn fc tc t : Nat) (fo to_ : Option Addr) (size : Int) (T : List Ob) (R fs ts : List Int) (Z : List Bool)
    (HH : Hid (RR w q g size T ∧ OwnG elI w (.slice fo fn fc) fs ∧ OwnG elI w (.slice to_ fn tc) ts)) (hT : T.length ≤ 2048) (hTl : T.length = tl) (hfn : fs.length = fn) (htn : ts.length = fn) (hF : fn ≤ 1000) (hbz : w.heap.size = bz)
    (hz0 : OwnG elZ wz (.slice (some ⟨bz, 0, none⟩) tl tl) Z) (hfr0 : Fr no w wz) (hrz0 : Rz T fs ts R Z) (hrt0 : rtOK T R Z t)
    (K : Act → World → Prop) (Q : Exit → Act → World → Prop) (c1 c4 c5 c6 c7 c8 c10 c11 c14 c15 c16 c17 c18 c19 c20 c21 c22 c23 c24 c25 c26 c27 c28 c29 c30 c31 c32 c33 c34 c35 c36 c37 c38 c39 c40 c41 c42 c43 c44 c45 c46 c47 c48 c49 c50 c51 c52 c53 c54 c55 c56 c57 c58 c59 c60 c61 c62 c63 c64 c65 c66 c67 c68 c69 c70 c71 c72 c73 c74 c75 c76 c77 c78 c79 c80 c81 c82 c83 c84 c85 c86 : Value)
    (hQ : ∀ (d13 d14 d15 d40 d41 d42 d43 d44 d45 d46 d47 d48 d49 d50 d51 d52 d53 d54 d55 d56 d57 d58 d59 d60 d61 d62 d63 d64 d65 d66 d67 d68 d69 d70 d71 d72 d73 d74 d75 d76 d77 d78 d79 d80 d81 d82 d83 d84 d85 : Value) (wc : World) (bb : Bool) (Z1 : List Bool), (OwnG elZ wc (.slice (some ⟨bz, 0, none⟩) tl tl) Z1 ∧ Fr no w wc ∧ Rz T fs ts R Z1 ∧ rtOK T R Z1 t ∧ (bb = false → Z1 = Z ∧ edOK T fs ts Z fn) ∧ (bb = true → Z1.count false < Z.count false)) → K { tmps := #[.pointer (some ⟨q, 0, none⟩), c1, .slice fo fn fc, .slice to_ fn tc, c4, c5, c6, c7, c8, .slice (some ⟨bz, 0, none⟩) tl tl, c10, c11, .bool bb, d13, d14, d15, c16, c17, c18, c19, c20, c21, c22, c23, c24, c25, c26, c27, c28, c29, c30, c31, c32, c33, c34, c35, c36, c37, c38, c39, d40, d41, d42, d43, d44, d45, d46, d47, d48, d49, d50, d51, d52, d53, d54, d55, d56, d57, d58, d59, d60, d61, d62, d63, d64, d65, d66, d67, d68, d69, d70, d71, d72, d73, d74, d75, d76, d77, d78, d79, d80, d81, d82, d83, d84, d85, c86], defers := [] } wc) :
    Code.wp Try.prog c_innerC (Exit.then K Q) { tmps := #[.pointer (some ⟨q, 0, none⟩), c1, .slice fo fn fc, .slice to_ fn tc, c4, c5, c6, c7, c8, .slice (some ⟨bz, 0, none⟩) tl tl, c10, c11, .bool false, .int .i64 0, c14, c15, c16, c17, c18, c19, c20, c21, c22, c23, c24, c25, c26, c27, c28, c29, c30, c31, c32, c33, c34, c35, c36, c37, c38, c39, c40, c41, c42, c43, c44, c45, c46, c47, c48, c49, c50, c51, c52, c53, c54, c55, c56, c57, c58, c59, c60, c61, c62, c63, c64, c65, c66, c67, c68, c69, c70, c71, c72, c73, c74, c75, c76, c77, c78, c79, c80, c81, c82, c83, c84, c85, c86], defers := [] } wz := by
  have HQ : Hid _ := hQ
  clear hQ
  have HO : Hid (OwnG elZ wz (.slice (some ⟨bz, 0, none⟩) tl tl) Z ∧ Fr no w wz ∧ Rz T fs ts R Z ∧ rtOK T R Z t) := ⟨hz0, hfr0, hrz0, hrt0⟩
  clear hz0 hfr0 hrz0 hrt0
  conv => arg 2; whnf
  go_wp2_with fail
  go_loopw [12, 13] (fun b i wx => ∃ (bb : Bool) (t2 : Nat) (Z1 : List Bool), b = .bool bb ∧ i = .int .i64 (t2 : Int) ∧ t2 ≤ fn ∧ OwnG elZ wx (.slice (some ⟨bz, 0, none⟩) tl tl) Z1 ∧ Fr no w wx ∧ Rz T fs ts R Z1 ∧ rtOK T R Z1 t ∧ (bb = false → Z1 = Z ∧ edOK T fs ts Z t2) ∧ (bb = true → Z1.count false < Z.count false)) (fun _ i _ => fn - (intOf i).toNat)
  case atStart => exact ⟨false, 0, Z, rfl, rfl, Nat.zero_le _, HO.out.1, HO.out.2.1, HO.out.2.2.1, HO.out.2.2.2, fun _ => ⟨rfl, fun i _ _ _ _ h => by omega⟩, fun e => by simp at e⟩
  case round =>
    clear HO
    obtain ⟨bb, t2, Z1, rfl, rfl, htn3, hz, hfr, hrz, hrt, hb0, hb1⟩ := hrel
    by_cases hti : t2 < fn
    · have hti' : (t2 : Int) < (fn : Int) := by omega
      obtain ⟨f, hf⟩ : ∃ f, fs[t2]? = some f := ⟨_, List.getElem?_eq_getElem (by omega)⟩
      obtain ⟨u, hu⟩ : ∃ u, ts[t2]? = some u := ⟨_, List.getElem?_eq_getElem (by omega)⟩
      obtain ⟨b0, o0, hov, hcf⟩ := ((HH.out.2.1.keep hfr).rd elI_ok).at1 (u := .int .i64 f) rfl rfl hf
      obtain ⟨b1, o1, hov1, hcu⟩ := ((HH.out.2.2.keep hfr).rd elI_ok).at1 (u := .int .i64 u) rfl rfl hu
      subst hov hov1
      have FQ : ∀ m a, Calls Try.prog 15 #[.pointer (some ⟨q, 0, none⟩), .int .i64 a] (wr.drewN m) fun e w' => e = .returned (.int .i64 (fdA (findO T a))) ∧ w' = wr.drewN m := fun m a => find_any _ q g size T (HH.out.1.keep (hfr.drewN m)) a (by omega)
      have Ff := fun m => FQ m f
      have Fu := fun m => FQ m u
      have KEEP : (∀ a b, findO T f = some a → findO T u = some b → Z1[a]? = some true → Z1[b]? = some true) → Hid (∀ m, OwnG elZ (wr.drewN m) (.slice (some ⟨bz, 0, none⟩) tl tl) Z1 ∧ Fr no w (wr.drewN m) ∧ Rz T fs ts R Z1 ∧ rtOK T R Z1 t ∧ (bb = false → Z1 = Z ∧ edOK T fs ts Z (t2 + 1)) ∧ (bb = true → Z1.count false < Z.count false)) := fun hc m => ⟨hz.keep ((Fr.refl no wr).drewN m), hfr.drewN m, hrz, hrt, fun e => by
        obtain ⟨e1, e2⟩ := hb0 e
        exact ⟨e1, e2.next hf hu (by rw [← e1]; exact hc)⟩, hb1⟩
      clear FQ
      cases hfa : findO T f with
      | none =>
        rw [hfa] at Ff
        simp only [fdA] at Ff
        have HK := KEEP (fun a b h => by rw [hfa] at h; simp at h)
        clear KEEP hz hfr hrz hrt hb0 hb1 hf hu hfa
        go_wp2_with fail
        go_quiet (first | (go_at_call_of 15 (Value.int IntKind.i64 f); exact Calls.quiet_of_same (Ff _)) | (go_at_call_of 15 (Value.int IntKind.i64 u); exact Calls.quiet_of_same (Fu _)))
        go_wp2_with fail
        go_roundw
        case rel => exact ⟨bb, t2 + 1, Z1, rfl, by go_num, by omega, HK.out _⟩
        case measure => simp [intOf]; omega
      | some ka =>
        rw [hfa] at Ff
        simp only [fdA] at Ff
        have hka0 : (0 : Int) ≤ (ka : Int) := by omega
        cases hub : findO T u with
        | none =>
          rw [hub] at Fu
          simp only [fdA] at Fu
          have HK := KEEP (fun a b _ h => by rw [hub] at h; simp at h)
          clear KEEP hz hfr hrz hrt hb0 hb1 hf hu hfa hub
          go_wp2_with fail
          go_quiet (first | (go_at_call_of 15 (Value.int IntKind.i64 f); exact Calls.quiet_of_same (Ff _)) | (go_at_call_of 15 (Value.int IntKind.i64 u); exact Calls.quiet_of_same (Fu _)))
          go_wp2_with fail
          go_roundw
          case rel => exact ⟨bb, t2 + 1, Z1, rfl, by go_num, by omega, HK.out _⟩
          case measure => simp [intOf]; omega
        | some kb =>
          rw [hub] at Fu
          simp only [fdA] at Fu
          have hkb0 : (0 : Int) ≤ (kb : Int) := by omega
          obtain ⟨xa, hxa, -, -⟩ := find_split hfa
          obtain ⟨xb, hxb, -, -⟩ := find_split hub
          have hkat : ka < tl := by rw [← hTl]; exact (List.getElem?_eq_some_iff.1 hxa).1
          have hkbt : kb < tl := by rw [← hTl]; exact (List.getElem?_eq_some_iff.1 hxb).1
          have hkat' : (ka : Int) < (tl : Int) := by omega
          have hkbt' : (kb : Int) < (tl : Int) := by omega
          obtain ⟨za, hza⟩ : ∃ z, Z1[ka]? = some z := ⟨_, List.getElem?_eq_getElem (by rw [hrz.len]; omega)⟩
          obtain ⟨zb, hzb⟩ : ∃ z, Z1[kb]? = some z := ⟨_, List.getElem?_eq_getElem (by rw [hrz.len]; omega)⟩
          obtain ⟨bq, oq, hoq, hcza⟩ := (hz.rd elZ_ok).at1 (u := .bool za) rfl rfl hza
          simp only [Option.some.injEq, Addr.mk.injEq] at hoq
          obtain ⟨rfl, rfl, -⟩ := hoq
          obtain ⟨bq, oq, hoq, hczb⟩ := (hz.rd elZ_ok).at1 (u := .bool zb) rfl rfl hzb
          simp only [Option.some.injEq, Addr.mk.injEq] at hoq
          obtain ⟨rfl, rfl, -⟩ := hoq
          simp only [Nat.zero_add] at hcza hczb
          cases za with
          | false =>
            have HK := KEEP (fun a b h _ h3 => by rw [hfa] at h; simp only [Option.some.injEq] at h; subst h; rw [hza] at h3; simp at h3)
            clear KEEP hz hfr hrz hrt hb0 hb1 hf hu hfa hub hza hzb hxa hxb
            go_wp2_with fail
            go_quiet (first | (go_at_call_of 15 (Value.int IntKind.i64 f); exact Calls.quiet_of_same (Ff _)) | (go_at_call_of 15 (Value.int IntKind.i64 u); exact Calls.quiet_of_same (Fu _)))
            go_wp2_with fail
            go_roundw
            case rel => exact ⟨bb, t2 + 1, Z1, rfl, by go_num, by omega, HK.out _⟩
            case measure => simp [intOf]; omega
          | true =>
            cases zb with
            | true =>
              have HK := KEEP (fun a b _ h _ => by rw [hub] at h; simp only [Option.some.injEq] at h; subst h; exact hzb)
              clear KEEP hz hfr hrz hrt hb0 hb1 hf hu hfa hub hza hzb hxa hxb
              go_wp2_with fail
              go_quiet (first | (go_at_call_of 15 (Value.int IntKind.i64 f); exact Calls.quiet_of_same (Ff _)) | (go_at_call_of 15 (Value.int IntKind.i64 u); exact Calls.quiet_of_same (Fu _)))
              go_wp2_with fail
              go_roundw
              case rel => exact ⟨bb, t2 + 1, Z1, rfl, by go_num, by omega, HK.out _⟩
              case measure => simp [intOf]; omega
            | false =>
              obtain ⟨x, hx, hre⟩ := hrz.edge hf hu hfa hub hza
              obtain ⟨m1, m2⟩ := hrz.mark hx hre
              have hcn := count_set hzb
              have HK : Hid (∀ m, OwnG elZ ((wr.drewN m).setCell ⟨bz, kb, none⟩ (.bool true)) (.slice (some ⟨bz, 0, none⟩) tl tl) (Z1.set kb true) ∧ Fr no w ((wr.drewN m).setCell ⟨bz, kb, none⟩ (.bool true)) ∧ Rz T fs ts R (Z1.set kb true) ∧ rtOK T R (Z1.set kb true) t ∧ (Z1.set kb true).count false < Z.count false) := fun m => by
                obtain ⟨s1, s2⟩ := setZ (by omega : w.heap.size ≤ bz) (hz.keep ((Fr.refl no wr).drewN m)) (hfr.drewN m) kb
                simp only [Nat.zero_add] at s1 s2
                refine ⟨s1, s2, m1, hrt.set kb, ?_⟩
                cases bb with
                | false => rw [(hb0 rfl).1] at hcn ⊢; exact hcn
                | true => have := hb1 rfl; omega
              have thw : wr.frozen? ⟨bz, kb, none⟩ = false := by
                obtain ⟨cc, hcc⟩ := hz.tag (k := bz) rfl
                simp [World.frozen?, hcc]
              clear KEEP hz hfr hrz hrt hb0 hb1 hf hu hfa hub hza hzb hxa hxb hx hre m1 m2 hcn
              go_wp2_with fail
              go_quiet (first | (go_at_call_of 15 (Value.int IntKind.i64 f); exact Calls.quiet_of_same (Ff _)) | (go_at_call_of 15 (Value.int IntKind.i64 u); exact Calls.quiet_of_same (Fu _)))
              go_wp2_with fail
              go_roundw
              case rel => exact ⟨true, t2 + 1, _, rfl, by go_num, by omega, (HK.out nq).1, (HK.out nq).2.1, (HK.out nq).2.2.1, (HK.out nq).2.2.2.1, fun e => by simp at e, fun _ => (HK.out nq).2.2.2.2⟩
              case measure => simp [intOf]; omega

    · obtain rfl : t2 = fn := by omega
      have HE : Hid (OwnG elZ wr (.slice (some ⟨bz, 0, none⟩) tl tl) Z1 ∧ Fr no w wr ∧ Rz T fs ts R Z1 ∧ rtOK T R Z1 t ∧ (bb = false → Z1 = Z ∧ edOK T fs ts Z t2) ∧ (bb = true → Z1.count false < Z.count false)) := ⟨hz, hfr, hrz, hrt, hb0, hb1⟩
      clear hz hfr hrz hrt hb0 hb1
      go_wp2_with fail
      exact HQ.out _ _ _ _ _ _ _ _ _ _ _ _ _ _ _ _ _ _ _ _ _ _ _ _ _ _ _ _ _ _ _ _ _ _ _ _ _ _ _ _ _ _ _ _ _ _ _ _ _ _ bb Z1 HE.out
end Go.Proofs.Ytopcbcdigllenaa

/- The document's own walk along the references. -/
namespace Go.Proofs.Ytopcbcdigllenaa
open Go.ChangeShapes Go.WideShapes Go.ChangeAt Go.RowKit

set_option maxHeartbeats 8000000 in
set_option maxRecDepth 100000 in
theorem docReached_any (w : World) (q g : Nat) (size : Int) (T : List Ob) (h : RR w q g size T) (rv fv tv : Value) (R fs ts : List Int) (hr : OwnG elI w rv R) (hf : OwnG elI w fv fs) (ht : OwnG elI w tv ts)
    (hT : T.length ≤ 2048) (hR : R.length ≤ 1000) (hl : fs.length = ts.length) (hF : fs.length ≤ 1000) (hn : (atsO T).Nodup) (hp : ∀ x ∈ T, 1 ≤ x.at_) :
    Calls Try.prog 24 #[.pointer (some ⟨q, 0, none⟩), rv, fv, tv] w fun e w' => ∃ v Z, e = .returned v ∧ OwnG elZ w' v Z ∧ NewV w v ∧ Fr no w w' ∧ Z.length = T.length ∧ ∀ (k : Nat) (x : Ob), T[k]? = some x → (Z[k]? = some true ↔ Reach (cE fs ts) (atsO T) R x.at_) := by
  have HH : Hid (RR w q g size T ∧ OwnG elI w rv R ∧ OwnG elI w fv fs ∧ OwnG elI w tv ts) := ⟨h, hr, hf, ht⟩
  have HD : Hid (∀ Z, Rz T fs ts R Z → rtOK T R Z R.length → edOK T fs ts Z fs.length → ∀ (k : Nat) (x : Ob), T[k]? = some x → (Z[k]? = some true ↔ Reach (cE fs ts) (atsO T) R x.at_)) := fun Z h1 h2 h3 => h1.done hn hp h2 h3
  have FD : Hid (∀ w1, Fr no w w1 → ∀ a, Calls Try.prog 15 #[.pointer (some ⟨q, 0, none⟩), .int .i64 a] w1 fun e w' => e = .returned (.int .i64 (fdA (findO T a))) ∧ w' = w1) := fun w1 f1 a => find_any w1 q g size T (HH.out.1.keep f1) a (by omega)
  obtain ⟨ad, cap, -, c1, -⟩ := h.cells
  obtain ⟨ro, rc, er⟩ := hr.form
  obtain ⟨fo, fc, ef⟩ := hf.form
  obtain ⟨to_, tc, et⟩ := ht.form
  subst er ef et
  have RN := run_newZ w T.length (by omega)
  have H1 : Hid (OwnG elZ (w.alloc (.cells (cg elZ (List.replicate T.length false)).toArray 4)) (.slice (some ⟨w.heap.size, 0, none⟩) T.length T.length) (List.replicate T.length false) ∧ Fr no w (w.alloc (.cells (cg elZ (List.replicate T.length false)).toArray 4))) := by
    have := own_lit elZ_ok w (List.replicate T.length false) (cg elZ (List.replicate T.length false)).toArray rfl (by simp [maxLen]; omega)
    rw [List.length_replicate] at this
    exact ⟨this, (Fr.refl no w).alloc _ _⟩
  clear h hr hf ht hn hp
  generalize hln : R.length = rn at *
  generalize hfn : fs.length = fn at *
  generalize htn : ts.length = tn at *
  subst hl
  generalize hbz : w.heap.size = bz at *
  go_enter Try.func24, Try.ntmps24
  go_wp2_with fail
  revert H1
  generalize w.alloc (.cells (cg elZ (List.replicate T.length false)).toArray 4) = w2
  intro H1
  clear RN c1
  generalize hTl : T.length = tl at *
  go_loopw [10] (fun i wr => ∃ (t : Nat) (Z : List Bool), i = .int .i64 (t : Int) ∧ t ≤ rn ∧ OwnG elZ wr (.slice (some ⟨bz, 0, none⟩) tl tl) Z ∧ Fr no w wr ∧ Rz T fs ts R Z ∧ rtOK T R Z t) (fun i _ => rn - (intOf i).toNat)
  case atStart => exact ⟨0, _, rfl, Nat.zero_le _, H1.out.1, H1.out.2, by have := Rz.start T fs ts R; rwa [hTl] at this, fun i a k h => by omega⟩
  case round =>
    clear H1
    obtain ⟨t, Z, rfl, htn2, hz, hfr, hrz, hrt⟩ := hrel
    by_cases hti : t < rn
    · have hti' : (t : Int) < (rn : Int) := by omega
      obtain ⟨a, ha⟩ : ∃ a, R[t]? = some a := ⟨_, List.getElem?_eq_getElem (by omega)⟩
      obtain ⟨b0, o0, hov, hca⟩ := ((HH.out.2.1.keep hfr).rd elI_ok).at1 (u := .int .i64 a) rfl rfl ha
      have F1 := FD.out wr hfr a
      have HX : Hid (OwnG elZ wr (.slice (some ⟨bz, 0, none⟩) tl tl) Z ∧ Fr no w wr ∧ Rz T fs ts R Z ∧ rtOK T R Z t ∧ R[t]? = some a) := ⟨hz, hfr, hrz, hrt, ha⟩
      subst hov
      cases hfo : findO T a with
      | none =>
        rw [hfo] at F1
        simp only [fdA] at F1
        have HN : Hid (rtOK T R Z (t + 1)) := hrt.next ha (fun k hk => by rw [hfo] at hk; simp at hk)
        clear hz hfr hrz hrt ha hfo
        go_wp2_with fail
        refine F1.mono ?_
        rintro e w5 ⟨rfl, rfl⟩
        clear F1
        go_wp2_with fail
        go_roundw
        case rel => exact ⟨t + 1, Z, by go_num, by omega, HX.out.1, HX.out.2.1, HX.out.2.2.1, HN.out⟩
        case measure => simp [intOf]; omega
      | some k =>
        rw [hfo] at F1
        simp only [fdA] at F1
        obtain ⟨x, hx, hre⟩ := Rz.root (fs := fs) (ts := ts) (List.mem_of_getElem? ha) hfo
        have hkt : k < tl := by rw [← hTl]; exact (List.getElem?_eq_some_iff.1 hx).1
        obtain ⟨m1, m2⟩ := hrz.mark hx hre
        obtain ⟨s1, s2⟩ := setZ (by omega : w.heap.size ≤ bz) hz hfr k
        obtain ⟨z, hzk⟩ : ∃ z, Z[k]? = some z := ⟨_, List.getElem?_eq_getElem (by rw [hrz.len]; omega)⟩
        obtain ⟨bq, oq, hoq, hcz⟩ := (hz.rd elZ_ok).at1 (u := .bool z) rfl rfl hzk
        simp only [Option.some.injEq, Addr.mk.injEq] at hoq
        obtain ⟨rfl, rfl, -⟩ := hoq
        have thw : wr.frozen? ⟨bz, 0 + k, none⟩ = false := by
          obtain ⟨cc, hcc⟩ := hz.tag (k := bz) rfl
          simp [World.frozen?, hcc]
        simp only [Nat.zero_add] at s1 s2 hcz thw
        have HN : Hid (OwnG elZ (wr.setCell ⟨bz, k, none⟩ (.bool true)) (.slice (some ⟨bz, 0, none⟩) tl tl) (Z.set k true) ∧ Fr no w (wr.setCell ⟨bz, k, none⟩ (.bool true)) ∧ Rz T fs ts R (Z.set k true) ∧ rtOK T R (Z.set k true) (t + 1)) := ⟨s1, s2, m1, (hrt.set k).next ha (fun j hj => by rw [hfo] at hj; simp only [Option.some.injEq] at hj; subst hj; exact m2)⟩
        have hk0 : (0 : Int) ≤ (k : Int) := by omega
        have hkt' : (k : Int) < (tl : Int) := by omega
        clear hz hfr hrz hrt ha hfo hx hre m1 m2 s1 s2 hzk
        go_wp2_with fail
        refine F1.mono ?_
        rintro e w5 ⟨rfl, rfl⟩
        clear F1
        go_wp2_with fail
        go_roundw
        case rel => exact ⟨t + 1, _, by go_num, by omega, HN.out⟩
        case measure => simp [intOf]; omega
    · obtain rfl : t = rn := by omega
      have H2 : Hid (OwnG elZ wr (.slice (some ⟨bz, 0, none⟩) tl tl) Z ∧ Fr no w wr ∧ Rz T fs ts R Z ∧ rtOK T R Z t) := ⟨hz, hfr, hrz, hrt⟩
      clear hz hfr hrz hrt
      go_wp2_with fail
      go_loopw [12] (fun b wr => ∃ (bb : Bool) (Z : List Bool), b = .bool bb ∧ OwnG elZ wr (.slice (some ⟨bz, 0, none⟩) tl tl) Z ∧ Fr no w wr ∧ Rz T fs ts R Z ∧ rtOK T R Z t ∧ (bb = false → edOK T fs ts Z fn)) (fun b wr => 2 * cntF (.slice (some ⟨bz, 0, none⟩) tl tl) wr + oneIf b)
      case atStart => exact ⟨true, Z, rfl, H2.out.1, H2.out.2.1, H2.out.2.2.1, H2.out.2.2.2, fun e => by simp at e⟩
      case round =>
        clear H2
        obtain ⟨bb, Z, rfl, hz, hfr, hrz, hrt, hed⟩ := hrel
        cases bb with
        | false =>
          have HZ : Hid (OwnG elZ wr (.slice (some ⟨bz, 0, none⟩) tl tl) Z ∧ Fr no w wr ∧ Z.length = T.length ∧ ∀ (k : Nat) (x : Ob), T[k]? = some x → (Z[k]? = some true ↔ Reach (cE fs ts) (atsO T) R x.at_)) := ⟨hz, hfr, hrz.len, HD.out Z hrz hrt (hed rfl)⟩
          clear hz hfr hrz hrt hed
          go_wp2_with fail
          go_ret
          exact ⟨_, Z, rfl, HZ.out.1, fun k hk => by simp [Value.ownBlock] at hk; omega, HZ.out.2⟩
        | true =>
          have HO : Hid (OwnG elZ wr (.slice (some ⟨bz, 0, none⟩) tl tl) Z ∧ Fr no w wr ∧ Rz T fs ts R Z ∧ rtOK T R Z t) := ⟨hz, hfr, hrz, hrt⟩
          have HC : Hid (cntF (.slice (some ⟨bz, 0, none⟩) tl tl) wr = Z.count false) := cntF_eq hz
          clear hz hfr hrz hrt hed
          go_upto_block 4 with fail
          rename_i Q0
          refine Code.wp_mono (Q := Exit.then (fun a w => Q0 Exit.normal a w) (fun _ _ _ => False)) (fun e a w h => by cases e <;> first | exact h | exact False.elim h) ?_
          refine c_inner w wr q g bz tl fn fc tc t fo to_ size T R fs ts Z ⟨HH.out.1, HH.out.2.2.1, HH.out.2.2.2⟩ (by omega) hTl hfn htn hF hbz HO.out.1 HO.out.2.1 HO.out.2.2.1 HO.out.2.2.2 _ _ _ _ _ _ _ _ _ _ _ _ _ _ _ _ _ _ _ _ _ _ _ _ _ _ _ _ _ _ _ _ _ _ _ _ _ _ _ _ _ _ _ _ _ _ _ _ _ _ _ _ _ _ _ _ _ _ _ _ _ _ _ _ _ _ _ _ _ _ _ _ _ _ _ _ _ _ _ _ _ _ _ ?_
          intro d13 d14 d15 d40 d41 d42 d43 d44 d45 d46 d47 d48 d49 d50 d51 d52 d53 d54 d55 d56 d57 d58 d59 d60 d61 d62 d63 d64 d65 d66 d67 d68 d69 d70 d71 d72 d73 d74 d75 d76 d77 d78 d79 d80 d81 d82 d83 d84 d85 wc bb Z1 hh
          have HE : Hid (OwnG elZ wc (.slice (some ⟨bz, 0, none⟩) tl tl) Z1 ∧ Fr no w wc ∧ Rz T fs ts R Z1 ∧ rtOK T R Z1 t ∧ (bb = false → edOK T fs ts Z1 fn)) := ⟨hh.1, hh.2.1, hh.2.2.1, hh.2.2.2.1, fun e => by
            obtain ⟨e1, e2⟩ := hh.2.2.2.2.1 e
            rw [e1]
            exact e2⟩
          have HM : Hid (2 * cntF (.slice (some ⟨bz, 0, none⟩) tl tl) wc + oneIf (.bool bb) < 2 * Z.count false + 1) := by
            rw [Hid, cntF_eq hh.1]
            cases bb with
            | false => rw [(hh.2.2.2.2.1 rfl).1]; simp [oneIf]
            | true => have := hh.2.2.2.2.2 rfl; simp only [oneIf]; omega
          clear hh HO
          dsimp only [Q0, Exit.then]
          go_roundw
          case rel => exact ⟨bb, Z1, rfl, HE.out⟩
          case measure =>
            have h1 := HM.out
            have h2 := HC.out
            rw [← h2] at h1
            exact h1
end Go.Proofs.Ytopcbcdigllenaa

