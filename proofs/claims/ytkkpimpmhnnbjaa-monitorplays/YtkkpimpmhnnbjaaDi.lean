/- names and Lock of the document. -/
import Derived.Test.YtkkpimpmhnnbjaaDh
import Derived.Test.YtkkpimpmhnnbjaaLk
namespace Go.Proofs.Ytkkpimpmhnnbjaa
open Go.ChangeShapes Go.WideShapes Go.ChangeAt Go.RowKit

set_option maxRecDepth 100000 in
theorem names_any (w : World) (v : Value) (l : List (Int × Int)) (h : OwnG elD w v l) (hl : l.length ≤ 900000) :
    Calls Try.prog 36 #[v] w fun e w' => ∃ v', e = .returned v' ∧ OwnG elI w' v' (fsts l) ∧ NewV w v' ∧ Fr no w w' := by
  have HR : Hid (RdG elD w v l) := h.rd elD_ok
  obtain ⟨o, cap, rfl⟩ := h.form
  clear h
  generalize hn : l.length = n at *
  go_enter Try.func36, Try.ntmps36
  go_wp2_with fail
  go_loopw [3, 4] (fun lv i wr => ∃ t : Nat, i = .int .i64 (t : Int) ∧ t ≤ n ∧ OwnG elI wr lv (fsts (l.take t)) ∧ NewV w lv ∧ Fr no w wr) (fun _ i _ => n - (intOf i).toNat)
  case atStart => exact ⟨0, rfl, Nat.zero_le _, OwnG.nil _ _, NewV.nil _, Fr.refl _ _⟩
  case round =>
    obtain ⟨t, rfl, htn, how, hnv, hfr⟩ := hrel
    by_cases hti : t < n
    · obtain ⟨⟨x1, x2⟩, hx⟩ : ∃ x, l[t]? = some x := ⟨_, List.getElem?_eq_getElem (by omega)⟩
      obtain ⟨b0, o0, hov, hc0, hc1⟩ := (HR.out.keep hfr).two (u := .int .i64 x1) (v := .int .i64 x2) rfl rfl hx
      subst hov
      have hti' : (t : Int) < (n : Int) := by omega
      have HS2 : Hid (fsts (l.take (t + 1)) = fsts (l.take t) ++ [x1]) := by
        rw [Hid, take_next _ _ _ hx]
        simp [fsts]
      have HSL : Hid ((fsts (l.take t)).length + [x1].length ≤ 1000000) := by
        simp only [Hid, fsts, List.length_map, List.length_take, List.length_cons, List.length_nil]
        omega
      have HX : Hid (NewV w u3 ∧ Fr no w wr) := ⟨hnv, hfr⟩
      have HO1 : Hid (OwnG elI (wr.alloc (.cells (elI.f x1).toArray elI.e)) u3 (fsts (l.take t))) := how.keep ((Fr.refl no wr).alloc _ _)
      have HFR : Hid (Fr no w (wr.alloc (.cells (elI.f x1).toArray elI.e))) := hfr.alloc _ _
      have HSR : Hid (Src Try.prog elI.n elI.t (.slice (some ⟨wr.heap.size, 0, none⟩) 1 1) [x1].length (cg elI [x1]) (wr.alloc (.cells (elI.f x1).toArray elI.e))) := srcG_one elI_ok wr x1
      clear hx how hnv hfr
      go_wp2_with (at_builtin; refine wpList_apdG elI_ok _ rfl rfl _ _ rfl u3 (fsts (l.take t)) rfl HO1.out _ rfl [x1] HSR.out HSL.out ?_; intro v' w3 o3 s3; have H3 : Hid (OwnG elI w3 v' (fsts (l.take t) ++ [x1]) ∧ NewV w v' ∧ Fr no w w3) := ⟨o3, HX.out.1.step HFR.out s3⟩; clear o3 s3)
      go_roundw
      case rel => exact ⟨t + 1, by go_num, by omega, by rw [HS2.out]; exact H3.out.1, H3.out.2⟩
      case measure => simp [intOf]; omega
    · obtain rfl : t = n := by omega
      have HZ : Hid (OwnG elI wr u3 (fsts l) ∧ NewV w u3 ∧ Fr no w wr) := by
        rw [List.take_of_length_le (by omega)] at how
        exact ⟨how, hnv, hfr⟩
      clear how hnv hfr
      go_wp2_with fail
      go_ret
      exact ⟨_, rfl, HZ.out⟩

/-- What the document's table tells of an object's lock. -/
def dLk (T : List (Int × Lk)) (a : Int) : Lk :=
  match fdT T a with
  | none => lk0
  | some i => match T[i]? with
    | none => lk0
    | some x => x.2

theorem results_22 (w : World) (r : Nat) (x0 x1 x2 x3 x4 : Value) (h : w.heap[r]? = some (.cells #[x0, x1, x2, x3, x4] 49 (0, 0))) (tmps : Array Value) (h2 : tmps.getD 4 undef = .pointer (some ⟨r, 0, none⟩)) :
    (results Try.f22 tmps).run Try.prog w = .ok (.agg #[x0, x1, x2, x3, x4]) w := by
  have hl : (loadVar 49 ⟨r, 0, none⟩).run Try.prog w = .ok (.agg #[x0, x1, x2, x3, x4]) w := by
    exact run_loadVar_row (P := Try.prog) w r 49 49 #[x0, x1, x2, x3, x4] (0, 0) _ h Try.underlying49 rfl (by kernel_rfl)
  have h2' : tmps[4]?.getD undef = .pointer (some ⟨r, 0, none⟩) := by simpa using h2
  simp [results, asAddr, h2', hl]

set_option maxRecDepth 100000 in
theorem dLock_none {c : Nat} {w : World} {q : Nat} {D : List Dl} (hD : DT c w q D) (a : Int) (hl : D.length ≤ 2000) (hf : fdT (told D) a = none) :
    Calls Try.prog 22 #[.pointer (some ⟨q, 0, none⟩), .int .i64 a] w fun e w' => e = .returned (.agg #[.int .i64 0, .int .i64 0, .bool false, .slice none 0 0, .slice none 0 0]) ∧ Fr no w w' := by
  have fa : Fr no w (w.alloc (.cells #[.int .i64 0, .int .i64 0, .bool false, .slice none 0 0, .slice none 0 0] 49)) := (Fr.refl no w).alloc _ _
  have FD := find_any (hD.keep fa) a (by omega)
  rw [hf] at FD
  have e : fdA none = -1 := rfl
  rw [e] at FD
  have HF : Hid _ := fa
  clear hD hf e fa
  go_enter Try.func22, Try.ntmps22
  go_wp2_with fail
  refine FD.mono ?_
  rintro _ w2 ⟨rfl, rfl⟩
  clear FD
  go_wp2_with fail
  refine bodyPost_ret (results_22 _ w.heap.size _ _ _ _ _ (heap_alloc_new w _) _ rfl) rfl ?_
  exact ⟨rfl, HF.out⟩

theorem ld72 {c : Nat} {w : World} {q : Nat} {D : List Dl} {i : Nat} {d : Dl} {b r : Nat} (h : Dx c w q D i d b r) : (Instr.loadAt 72 (.pointer (some ⟨b, r, none⟩))).run Try.prog w = .ok (.agg #[.int .i64 d.at_, .int .i64 d.x.owner, .int .i64 d.x.count, .bool d.x.fat, d.e, d.v]) w := by
  obtain ⟨h0, h1, h2, h3, h4, h5⟩ := h.cells
  exact run_loadAt_mid (P := Try.prog) w b r 72 [.int .i64 d.at_, .int .i64 d.x.owner, .int .i64 d.x.count, .bool d.x.fat, d.e, d.v] _ (fun j v hv => by
    match j, hv with
    | 0, hv => simp at hv; subst hv; exact h0
    | 1, hv => simp at hv; subst hv; exact h1
    | 2, hv => simp at hv; subst hv; exact h2
    | 3, hv => simp at hv; subst hv; exact h3
    | 4, hv => simp at hv; subst hv; exact h4
    | 5, hv => simp at hv; subst hv; exact h5) Try.underlying72 (by kernel_rfl) (by kernel_rfl)

set_option maxRecDepth 100000 in
theorem dLock_some {c : Nat} {w : World} {q : Nat} {D : List Dl} (hD : DT c w q D) (a : Int) (hl : D.length ≤ 2000) {i : Nat} (hf : fdT (told D) a = some i) {d : Dl} (hd : D[i]? = some d) (hl1 : d.x.entry.length ≤ 900000) (hl2 : d.x.wait.length ≤ 900000) :
    Calls Try.prog 22 #[.pointer (some ⟨q, 0, none⟩), .int .i64 a] w fun e w' => ∃ v1 v2, e = .returned (.agg #[.int .i64 d.x.owner, .int .i64 d.x.count, .bool d.x.fat, v1, v2]) ∧ OwnG elI w' v1 (fsts d.x.entry) ∧ OwnG elI w' v2 (fsts d.x.wait) ∧ Fr no w w' := by
  have fa : Fr no w (w.alloc (.cells #[.int .i64 0, .int .i64 0, .bool false, .slice none 0 0, .slice none 0 0] 49)) := (Fr.refl no w).alloc _ _
  have hDa := hD.keep fa
  have FD := find_any hDa a (by omega)
  rw [hf] at FD
  have e : fdA (some i) = (i : Int) := rfl
  rw [e] at FD
  obtain ⟨o, cap, k1, -, -, hg⟩ := hDa.get
  obtain ⟨b, r, rfl, hX⟩ := hg i d hd
  obtain ⟨q0, q1, q2, q3, q4, q5⟩ := hX.cells
  obtain ⟨r1, r2⟩ := hX.rows
  obtain ⟨oe, ce, hee⟩ := r1.form
  obtain ⟨ow, cw, hww⟩ := r2.form
  have hb := heap_alloc_new w (.cells #[.int .i64 0, .int .i64 0, .bool false, .slice none 0 0, .slice none 0 0] 49)
  rw [hee] at q4
  rw [hww] at q5
  have hlt := (List.getElem?_eq_some_iff.1 hd).1
  have hi0 : ¬ ((i : Int) < 0) := by omega
  have hi1 : (i : Int) < (D.length : Int) := by omega
  have HL1 : Hid (d.x.entry.length ≤ 900000) := hl1
  have HL2 : Hid (d.x.wait.length ≤ 900000) := hl2
  rw [hee] at r1
  rw [hww] at r2
  have HQ : Hid (OwnG elD (w.alloc (.cells #[.int .i64 0, .int .i64 0, .bool false, .slice none 0 0, .slice none 0 0] 49)) (.slice oe d.x.entry.length ce) d.x.entry ∧ OwnG elD (w.alloc (.cells #[.int .i64 0, .int .i64 0, .bool false, .slice none 0 0, .slice none 0 0] 49)) (.slice ow d.x.wait.length cw) d.x.wait) := ⟨r1, r2⟩
  have HF : Hid _ := fa
  have HB : Hid _ := hb
  clear hD hDa hf e fa hg hX r1 r2 hee hww hb hd hl1 hl2
  generalize hle : d.x.entry.length = le at HQ q4
  generalize hlw : d.x.wait.length = lw at HQ q5
  generalize D.length = n at *
  clear hle hlw
  go_enter Try.func22, Try.ntmps22
  go_wp2_with fail
  refine FD.mono ?_
  rintro _ w2 ⟨rfl, rfl⟩
  clear FD
  go_upto_region 5 with fail
  have e1 : (w.alloc (.cells #[.int .i64 0, .int .i64 0, .bool false, .slice none 0 0, .slice none 0 0] 49)).heap.size = w.heap.size + 1 := by show (w.heap.push _).size = _; simp
  have HFW : Hid (Fr no w ((w.alloc (.cells #[.int .i64 0, .int .i64 0, .bool false, .slice none 0 0, .slice none 0 0] 49)).alloc (.cells #[.int .i64 d.at_, .int .i64 d.x.owner, .int .i64 d.x.count, .bool d.x.fat, .slice oe le ce, .slice ow lw cw] 72))) := HF.out.alloc _ _
  have HQ2 : Hid (∀ w', Fr no ((w.alloc (.cells #[.int .i64 0, .int .i64 0, .bool false, .slice none 0 0, .slice none 0 0] 49)).alloc (.cells #[.int .i64 d.at_, .int .i64 d.x.owner, .int .i64 d.x.count, .bool d.x.fat, .slice oe le ce, .slice ow lw cw] 72)) w' → w'.heap[w.heap.size + 1]? = some (.cells #[.int .i64 d.at_, .int .i64 d.x.owner, .int .i64 d.x.count, .bool d.x.fat, .slice oe le ce, .slice ow lw cw] 72 (0, 0)) ∧ OwnG elD w' (.slice oe le ce) d.x.entry ∧ OwnG elD w' (.slice ow lw cw) d.x.wait ∧ w'.heap[w.heap.size]? = some (.cells #[.int .i64 0, .int .i64 0, .bool false, .slice none 0 0, .slice none 0 0] 49 (0, 0))) := fun w' f => by
    have f1 : Fr no (w.alloc (.cells #[.int .i64 0, .int .i64 0, .bool false, .slice none 0 0, .slice none 0 0] 49)) ((w.alloc (.cells #[.int .i64 0, .int .i64 0, .bool false, .slice none 0 0, .slice none 0 0] 49)).alloc (.cells #[.int .i64 d.at_, .int .i64 d.x.owner, .int .i64 d.x.count, .bool d.x.fat, .slice oe le ce, .slice ow lw cw] 72)) := (Fr.refl no _).alloc _ _
    have hn := heap_alloc_new (w.alloc (.cells #[.int .i64 0, .int .i64 0, .bool false, .slice none 0 0, .slice none 0 0] 49)) (.cells #[.int .i64 d.at_, .int .i64 d.x.owner, .int .i64 d.x.count, .bool d.x.fat, .slice oe le ce, .slice ow lw cw] 72)
    rw [e1] at hn
    exact ⟨f.heap hn (fun e => e), (HQ.out.1.keep f1).keep f, (HQ.out.2.keep f1).keep f, f.heap (f1.heap HB.out (fun e => e)) (fun e => e)⟩
  clear q0 q1 q2 q3 q4 q5 k1 HQ HB HF e1
  rename_i K2 hK2
  revert HQ2 HFW
  generalize ((w.alloc (.cells #[.int .i64 0, .int .i64 0, .bool false, .slice none 0 0, .slice none 0 0] 49)).alloc (.cells #[.int .i64 d.at_, .int .i64 d.x.owner, .int .i64 d.x.count, .bool d.x.fat, .slice oe le ce, .slice ow lw cw] 72)) = W
  intro HFW HQ2
  generalize hb0 : w.heap.size = b0 at HQ2 ⊢
  have HBS : Hid (w.heap.size ≤ b0) := Nat.le_of_eq hb0
  generalize hb1 : b0 + 1 = b1 at HQ2 ⊢
  have TH : ∀ (w' : World) (v : Value) (l : List (Int × Int)), OwnG elD w' v l → l.length ≤ 900000 → Calls Try.prog 36 #[v] w' fun e w2 => ∃ v', e = .returned v' ∧ ∃ s k t, v' = .slice s k t ∧ OwnG elI w2 (.slice s k t) (fsts l) ∧ Fr no w' w2 := fun w' v l h1 h2 => (names_any w' v l h1 h2).mono fun e w2 ⟨v', he, o, _, f⟩ => by
    obtain ⟨s, t, rfl⟩ := o.form
    exact ⟨_, he, s, _, t, rfl, o, f⟩
  have C1 : ∀ w', Fr no W w' → _ := fun w' f => TH w' (.slice oe le ce) d.x.entry (HQ2.out w' f).2.1 HL1.out
  have C2 : ∀ w', Fr no W w' → _ := fun w' f => TH w' (.slice ow lw cw) d.x.wait (HQ2.out w' f).2.2.1 HL2.out
  have HA1 : Hid (∀ w', Fr no W w' → w'.cell? ⟨b1, 1, none⟩ = some (.int .i64 d.x.owner)) := fun w' f => by have := (HQ2.out w' f).1; simp [World.cell?, this]
  have HA2 : Hid (∀ w', Fr no W w' → w'.cell? ⟨b1, 2, none⟩ = some (.int .i64 d.x.count)) := fun w' f => by have := (HQ2.out w' f).1; simp [World.cell?, this]
  have HA3 : Hid (∀ w', Fr no W w' → w'.cell? ⟨b1, 3, none⟩ = some (.bool d.x.fat)) := fun w' f => by have := (HQ2.out w' f).1; simp [World.cell?, this]
  have HA4 : Hid (∀ w', Fr no W w' → w'.cell? ⟨b1, 4, none⟩ = some (.slice oe le ce)) := fun w' f => by have := (HQ2.out w' f).1; simp [World.cell?, this]
  have HA5 : Hid (∀ w', Fr no W w' → w'.cell? ⟨b1, 5, none⟩ = some (.slice ow lw cw)) := fun w' f => by have := (HQ2.out w' f).1; simp [World.cell?, this]
  have f0 : Fr no W W.drew := (Fr.refl no W).drew
  clear TH
  refine late_begin (S := fun w' => Fr no W w') (g := 13) (by kernel_rfl) ?_
  refine lateP 0 (.pointer (some ⟨b1, 1, none⟩)) rfl (fun _ => ev_field 72 6 1 (.pointer (some ⟨b1, 0, none⟩)) _ rfl (by kernel_rfl) (by kernel_rfl)) (fun _ => f0) ?_
  refine lateN (true :: false :: false :: false :: false :: false :: false :: false :: false :: false :: false :: false :: false :: false :: []).toArray ⟨(.pointer (some ⟨q, 0, none⟩) :: .int .i64 a :: undef :: undef :: .pointer (some ⟨b0, 0, none⟩) :: .int .i64 (i : Int) :: .pointer (some ⟨b1, 0, none⟩) :: .pointer (some ⟨q, 0, none⟩) :: .int .i64 a :: .int .i64 (i : Int) :: .int .i64 (i : Int) :: .bool (decide ((i : Int) < 0)) :: undef :: .pointer (some ⟨q, 0, none⟩) :: .pointer (some ⟨q, 0, none⟩) :: .pointer (some ⟨q, 0, none⟩) :: .slice (some ⟨b, r, none⟩) n cap :: .int .i64 (i : Int) :: .pointer (some ⟨b, r + i * 6, none⟩) :: .agg #[.int .i64 d.at_, .int .i64 d.x.owner, .int .i64 d.x.count, .bool d.x.fat, .slice oe le ce, .slice ow lw cw] :: .pointer (some ⟨b1, 1, none⟩) :: undef :: undef :: undef :: undef :: undef :: undef :: undef :: undef :: undef :: undef :: undef :: undef :: []).toArray, []⟩ ?_
  refine lateT 1 (.int .i64 d.x.owner) rfl (fun wz hz => ev_load 3 20 (.pointer (some ⟨b1, 1, none⟩)) (.int .i64 d.x.owner) rfl (by kernel_rfl) (ld3 (HA1.out wz hz))) f0 ?_
  refine lateN (true :: true :: false :: false :: false :: false :: false :: false :: false :: false :: false :: false :: false :: false :: []).toArray ⟨(.pointer (some ⟨q, 0, none⟩) :: .int .i64 a :: undef :: undef :: .pointer (some ⟨b0, 0, none⟩) :: .int .i64 (i : Int) :: .pointer (some ⟨b1, 0, none⟩) :: .pointer (some ⟨q, 0, none⟩) :: .int .i64 a :: .int .i64 (i : Int) :: .int .i64 (i : Int) :: .bool (decide ((i : Int) < 0)) :: undef :: .pointer (some ⟨q, 0, none⟩) :: .pointer (some ⟨q, 0, none⟩) :: .pointer (some ⟨q, 0, none⟩) :: .slice (some ⟨b, r, none⟩) n cap :: .int .i64 (i : Int) :: .pointer (some ⟨b, r + i * 6, none⟩) :: .agg #[.int .i64 d.at_, .int .i64 d.x.owner, .int .i64 d.x.count, .bool d.x.fat, .slice oe le ce, .slice ow lw cw] :: .pointer (some ⟨b1, 1, none⟩) :: .int .i64 d.x.owner :: undef :: undef :: undef :: undef :: undef :: undef :: undef :: undef :: undef :: undef :: undef :: []).toArray, []⟩ ?_
  refine lateP 2 (.pointer (some ⟨b1, 2, none⟩)) rfl (fun _ => ev_field 72 6 2 (.pointer (some ⟨b1, 0, none⟩)) _ rfl (by kernel_rfl) (by kernel_rfl)) (fun _ => f0) ?_
  refine lateN (true :: true :: true :: false :: false :: false :: false :: false :: false :: false :: false :: false :: false :: false :: []).toArray ⟨(.pointer (some ⟨q, 0, none⟩) :: .int .i64 a :: undef :: undef :: .pointer (some ⟨b0, 0, none⟩) :: .int .i64 (i : Int) :: .pointer (some ⟨b1, 0, none⟩) :: .pointer (some ⟨q, 0, none⟩) :: .int .i64 a :: .int .i64 (i : Int) :: .int .i64 (i : Int) :: .bool (decide ((i : Int) < 0)) :: undef :: .pointer (some ⟨q, 0, none⟩) :: .pointer (some ⟨q, 0, none⟩) :: .pointer (some ⟨q, 0, none⟩) :: .slice (some ⟨b, r, none⟩) n cap :: .int .i64 (i : Int) :: .pointer (some ⟨b, r + i * 6, none⟩) :: .agg #[.int .i64 d.at_, .int .i64 d.x.owner, .int .i64 d.x.count, .bool d.x.fat, .slice oe le ce, .slice ow lw cw] :: .pointer (some ⟨b1, 1, none⟩) :: .int .i64 d.x.owner :: .pointer (some ⟨b1, 2, none⟩) :: undef :: undef :: undef :: undef :: undef :: undef :: undef :: undef :: undef :: undef :: []).toArray, []⟩ ?_
  refine lateT 3 (.int .i64 d.x.count) rfl (fun wz hz => ev_load 3 22 (.pointer (some ⟨b1, 2, none⟩)) (.int .i64 d.x.count) rfl (by kernel_rfl) (ld3 (HA2.out wz hz))) f0 ?_
  refine lateN (true :: true :: true :: true :: false :: false :: false :: false :: false :: false :: false :: false :: false :: false :: []).toArray ⟨(.pointer (some ⟨q, 0, none⟩) :: .int .i64 a :: undef :: undef :: .pointer (some ⟨b0, 0, none⟩) :: .int .i64 (i : Int) :: .pointer (some ⟨b1, 0, none⟩) :: .pointer (some ⟨q, 0, none⟩) :: .int .i64 a :: .int .i64 (i : Int) :: .int .i64 (i : Int) :: .bool (decide ((i : Int) < 0)) :: undef :: .pointer (some ⟨q, 0, none⟩) :: .pointer (some ⟨q, 0, none⟩) :: .pointer (some ⟨q, 0, none⟩) :: .slice (some ⟨b, r, none⟩) n cap :: .int .i64 (i : Int) :: .pointer (some ⟨b, r + i * 6, none⟩) :: .agg #[.int .i64 d.at_, .int .i64 d.x.owner, .int .i64 d.x.count, .bool d.x.fat, .slice oe le ce, .slice ow lw cw] :: .pointer (some ⟨b1, 1, none⟩) :: .int .i64 d.x.owner :: .pointer (some ⟨b1, 2, none⟩) :: .int .i64 d.x.count :: undef :: undef :: undef :: undef :: undef :: undef :: undef :: undef :: undef :: []).toArray, []⟩ ?_
  refine lateP 4 (.pointer (some ⟨b1, 3, none⟩)) rfl (fun _ => ev_field 72 6 3 (.pointer (some ⟨b1, 0, none⟩)) _ rfl (by kernel_rfl) (by kernel_rfl)) (fun _ => f0) ?_
  refine lateN (true :: true :: true :: true :: true :: false :: false :: false :: false :: false :: false :: false :: false :: false :: []).toArray ⟨(.pointer (some ⟨q, 0, none⟩) :: .int .i64 a :: undef :: undef :: .pointer (some ⟨b0, 0, none⟩) :: .int .i64 (i : Int) :: .pointer (some ⟨b1, 0, none⟩) :: .pointer (some ⟨q, 0, none⟩) :: .int .i64 a :: .int .i64 (i : Int) :: .int .i64 (i : Int) :: .bool (decide ((i : Int) < 0)) :: undef :: .pointer (some ⟨q, 0, none⟩) :: .pointer (some ⟨q, 0, none⟩) :: .pointer (some ⟨q, 0, none⟩) :: .slice (some ⟨b, r, none⟩) n cap :: .int .i64 (i : Int) :: .pointer (some ⟨b, r + i * 6, none⟩) :: .agg #[.int .i64 d.at_, .int .i64 d.x.owner, .int .i64 d.x.count, .bool d.x.fat, .slice oe le ce, .slice ow lw cw] :: .pointer (some ⟨b1, 1, none⟩) :: .int .i64 d.x.owner :: .pointer (some ⟨b1, 2, none⟩) :: .int .i64 d.x.count :: .pointer (some ⟨b1, 3, none⟩) :: undef :: undef :: undef :: undef :: undef :: undef :: undef :: undef :: []).toArray, []⟩ ?_
  refine lateT 5 (.bool d.x.fat) rfl (fun wz hz => ev_load 4 24 (.pointer (some ⟨b1, 3, none⟩)) (.bool d.x.fat) rfl (by kernel_rfl) (ld4 (HA3.out wz hz))) f0 ?_
  refine lateN (true :: true :: true :: true :: true :: true :: false :: false :: false :: false :: false :: false :: false :: false :: []).toArray ⟨(.pointer (some ⟨q, 0, none⟩) :: .int .i64 a :: undef :: undef :: .pointer (some ⟨b0, 0, none⟩) :: .int .i64 (i : Int) :: .pointer (some ⟨b1, 0, none⟩) :: .pointer (some ⟨q, 0, none⟩) :: .int .i64 a :: .int .i64 (i : Int) :: .int .i64 (i : Int) :: .bool (decide ((i : Int) < 0)) :: undef :: .pointer (some ⟨q, 0, none⟩) :: .pointer (some ⟨q, 0, none⟩) :: .pointer (some ⟨q, 0, none⟩) :: .slice (some ⟨b, r, none⟩) n cap :: .int .i64 (i : Int) :: .pointer (some ⟨b, r + i * 6, none⟩) :: .agg #[.int .i64 d.at_, .int .i64 d.x.owner, .int .i64 d.x.count, .bool d.x.fat, .slice oe le ce, .slice ow lw cw] :: .pointer (some ⟨b1, 1, none⟩) :: .int .i64 d.x.owner :: .pointer (some ⟨b1, 2, none⟩) :: .int .i64 d.x.count :: .pointer (some ⟨b1, 3, none⟩) :: .bool d.x.fat :: undef :: undef :: undef :: undef :: undef :: undef :: undef :: []).toArray, []⟩ ?_
  refine lateP 6 (.pointer (some ⟨b1, 4, none⟩)) rfl (fun _ => ev_field 72 6 4 (.pointer (some ⟨b1, 0, none⟩)) _ rfl (by kernel_rfl) (by kernel_rfl)) (fun _ => f0) ?_
  refine lateN (true :: true :: true :: true :: true :: true :: true :: false :: false :: false :: false :: false :: false :: false :: []).toArray ⟨(.pointer (some ⟨q, 0, none⟩) :: .int .i64 a :: undef :: undef :: .pointer (some ⟨b0, 0, none⟩) :: .int .i64 (i : Int) :: .pointer (some ⟨b1, 0, none⟩) :: .pointer (some ⟨q, 0, none⟩) :: .int .i64 a :: .int .i64 (i : Int) :: .int .i64 (i : Int) :: .bool (decide ((i : Int) < 0)) :: undef :: .pointer (some ⟨q, 0, none⟩) :: .pointer (some ⟨q, 0, none⟩) :: .pointer (some ⟨q, 0, none⟩) :: .slice (some ⟨b, r, none⟩) n cap :: .int .i64 (i : Int) :: .pointer (some ⟨b, r + i * 6, none⟩) :: .agg #[.int .i64 d.at_, .int .i64 d.x.owner, .int .i64 d.x.count, .bool d.x.fat, .slice oe le ce, .slice ow lw cw] :: .pointer (some ⟨b1, 1, none⟩) :: .int .i64 d.x.owner :: .pointer (some ⟨b1, 2, none⟩) :: .int .i64 d.x.count :: .pointer (some ⟨b1, 3, none⟩) :: .bool d.x.fat :: .pointer (some ⟨b1, 4, none⟩) :: undef :: undef :: undef :: undef :: undef :: undef :: []).toArray, []⟩ ?_
  refine lateT 7 (.slice oe le ce) rfl (fun wz hz => ev_load 70 26 (.pointer (some ⟨b1, 4, none⟩)) (.slice oe le ce) rfl (by kernel_rfl) (ld70 (HA4.out wz hz))) f0 ?_
  refine lateN (true :: true :: true :: true :: true :: true :: true :: true :: false :: false :: false :: false :: false :: false :: []).toArray ⟨(.pointer (some ⟨q, 0, none⟩) :: .int .i64 a :: undef :: undef :: .pointer (some ⟨b0, 0, none⟩) :: .int .i64 (i : Int) :: .pointer (some ⟨b1, 0, none⟩) :: .pointer (some ⟨q, 0, none⟩) :: .int .i64 a :: .int .i64 (i : Int) :: .int .i64 (i : Int) :: .bool (decide ((i : Int) < 0)) :: undef :: .pointer (some ⟨q, 0, none⟩) :: .pointer (some ⟨q, 0, none⟩) :: .pointer (some ⟨q, 0, none⟩) :: .slice (some ⟨b, r, none⟩) n cap :: .int .i64 (i : Int) :: .pointer (some ⟨b, r + i * 6, none⟩) :: .agg #[.int .i64 d.at_, .int .i64 d.x.owner, .int .i64 d.x.count, .bool d.x.fat, .slice oe le ce, .slice ow lw cw] :: .pointer (some ⟨b1, 1, none⟩) :: .int .i64 d.x.owner :: .pointer (some ⟨b1, 2, none⟩) :: .int .i64 d.x.count :: .pointer (some ⟨b1, 3, none⟩) :: .bool d.x.fat :: .pointer (some ⟨b1, 4, none⟩) :: .slice oe le ce :: undef :: undef :: undef :: undef :: undef :: []).toArray, []⟩ ?_
  refine lateP 9 (.pointer (some ⟨b1, 5, none⟩)) rfl (fun _ => ev_field 72 6 5 (.pointer (some ⟨b1, 0, none⟩)) _ rfl (by kernel_rfl) (by kernel_rfl)) (fun _ => f0) ?_
  refine lateN (true :: true :: true :: true :: true :: true :: true :: true :: false :: true :: false :: false :: false :: false :: []).toArray ⟨(.pointer (some ⟨q, 0, none⟩) :: .int .i64 a :: undef :: undef :: .pointer (some ⟨b0, 0, none⟩) :: .int .i64 (i : Int) :: .pointer (some ⟨b1, 0, none⟩) :: .pointer (some ⟨q, 0, none⟩) :: .int .i64 a :: .int .i64 (i : Int) :: .int .i64 (i : Int) :: .bool (decide ((i : Int) < 0)) :: undef :: .pointer (some ⟨q, 0, none⟩) :: .pointer (some ⟨q, 0, none⟩) :: .pointer (some ⟨q, 0, none⟩) :: .slice (some ⟨b, r, none⟩) n cap :: .int .i64 (i : Int) :: .pointer (some ⟨b, r + i * 6, none⟩) :: .agg #[.int .i64 d.at_, .int .i64 d.x.owner, .int .i64 d.x.count, .bool d.x.fat, .slice oe le ce, .slice ow lw cw] :: .pointer (some ⟨b1, 1, none⟩) :: .int .i64 d.x.owner :: .pointer (some ⟨b1, 2, none⟩) :: .int .i64 d.x.count :: .pointer (some ⟨b1, 3, none⟩) :: .bool d.x.fat :: .pointer (some ⟨b1, 4, none⟩) :: .slice oe le ce :: undef :: .pointer (some ⟨b1, 5, none⟩) :: undef :: undef :: undef :: []).toArray, []⟩ ?_
  refine lateT 10 (.slice ow lw cw) rfl (fun wz hz => ev_load 70 29 (.pointer (some ⟨b1, 5, none⟩)) (.slice ow lw cw) rfl (by kernel_rfl) (ld70 (HA5.out wz hz))) f0 ?_
  refine lateN (true :: true :: true :: true :: true :: true :: true :: true :: false :: true :: true :: false :: false :: false :: []).toArray ⟨(.pointer (some ⟨q, 0, none⟩) :: .int .i64 a :: undef :: undef :: .pointer (some ⟨b0, 0, none⟩) :: .int .i64 (i : Int) :: .pointer (some ⟨b1, 0, none⟩) :: .pointer (some ⟨q, 0, none⟩) :: .int .i64 a :: .int .i64 (i : Int) :: .int .i64 (i : Int) :: .bool (decide ((i : Int) < 0)) :: undef :: .pointer (some ⟨q, 0, none⟩) :: .pointer (some ⟨q, 0, none⟩) :: .pointer (some ⟨q, 0, none⟩) :: .slice (some ⟨b, r, none⟩) n cap :: .int .i64 (i : Int) :: .pointer (some ⟨b, r + i * 6, none⟩) :: .agg #[.int .i64 d.at_, .int .i64 d.x.owner, .int .i64 d.x.count, .bool d.x.fat, .slice oe le ce, .slice ow lw cw] :: .pointer (some ⟨b1, 1, none⟩) :: .int .i64 d.x.owner :: .pointer (some ⟨b1, 2, none⟩) :: .int .i64 d.x.count :: .pointer (some ⟨b1, 3, none⟩) :: .bool d.x.fat :: .pointer (some ⟨b1, 4, none⟩) :: .slice oe le ce :: undef :: .pointer (some ⟨b1, 5, none⟩) :: .slice ow lw cw :: undef :: undef :: []).toArray, []⟩ ?_
  refine late_all [8] (by kernel_rfl) (by simp) (fun jj hjj => ?_)
  simp only [List.mem_singleton] at hjj
  subst hjj
  refine late_call rfl (by kernel_rfl) (vals := #[.slice oe le ce]) (f := 36) (by kernel_rfl) (C1 _ f0) ?_
  rintro _ w1 ⟨s1, k1, t1, rfl, o1, g1⟩
  have f1 := f0.and g1
  refine ⟨fun _ => f1, ?_⟩
  refine lateN (true :: true :: true :: true :: true :: true :: true :: true :: true :: true :: true :: false :: false :: false :: []).toArray ⟨(.pointer (some ⟨q, 0, none⟩) :: .int .i64 a :: undef :: undef :: .pointer (some ⟨b0, 0, none⟩) :: .int .i64 (i : Int) :: .pointer (some ⟨b1, 0, none⟩) :: .pointer (some ⟨q, 0, none⟩) :: .int .i64 a :: .int .i64 (i : Int) :: .int .i64 (i : Int) :: .bool (decide ((i : Int) < 0)) :: undef :: .pointer (some ⟨q, 0, none⟩) :: .pointer (some ⟨q, 0, none⟩) :: .pointer (some ⟨q, 0, none⟩) :: .slice (some ⟨b, r, none⟩) n cap :: .int .i64 (i : Int) :: .pointer (some ⟨b, r + i * 6, none⟩) :: .agg #[.int .i64 d.at_, .int .i64 d.x.owner, .int .i64 d.x.count, .bool d.x.fat, .slice oe le ce, .slice ow lw cw] :: .pointer (some ⟨b1, 1, none⟩) :: .int .i64 d.x.owner :: .pointer (some ⟨b1, 2, none⟩) :: .int .i64 d.x.count :: .pointer (some ⟨b1, 3, none⟩) :: .bool d.x.fat :: .pointer (some ⟨b1, 4, none⟩) :: .slice oe le ce :: .slice s1 k1 t1 :: .pointer (some ⟨b1, 5, none⟩) :: .slice ow lw cw :: undef :: undef :: []).toArray, []⟩ ?_
  refine late_all [11] (by kernel_rfl) (by simp) (fun jj hjj => ?_)
  simp only [List.mem_singleton] at hjj
  subst hjj
  refine late_call rfl (by kernel_rfl) (vals := #[.slice ow lw cw]) (f := 36) (by kernel_rfl) (C2 _ f1) ?_
  rintro _ w2 ⟨s2, k2, t2, rfl, o2, g2⟩
  have f2 := f1.and g2
  refine ⟨fun _ => f2, ?_⟩
  refine lateN (true :: true :: true :: true :: true :: true :: true :: true :: true :: true :: true :: true :: false :: false :: []).toArray ⟨(.pointer (some ⟨q, 0, none⟩) :: .int .i64 a :: undef :: undef :: .pointer (some ⟨b0, 0, none⟩) :: .int .i64 (i : Int) :: .pointer (some ⟨b1, 0, none⟩) :: .pointer (some ⟨q, 0, none⟩) :: .int .i64 a :: .int .i64 (i : Int) :: .int .i64 (i : Int) :: .bool (decide ((i : Int) < 0)) :: undef :: .pointer (some ⟨q, 0, none⟩) :: .pointer (some ⟨q, 0, none⟩) :: .pointer (some ⟨q, 0, none⟩) :: .slice (some ⟨b, r, none⟩) n cap :: .int .i64 (i : Int) :: .pointer (some ⟨b, r + i * 6, none⟩) :: .agg #[.int .i64 d.at_, .int .i64 d.x.owner, .int .i64 d.x.count, .bool d.x.fat, .slice oe le ce, .slice ow lw cw] :: .pointer (some ⟨b1, 1, none⟩) :: .int .i64 d.x.owner :: .pointer (some ⟨b1, 2, none⟩) :: .int .i64 d.x.count :: .pointer (some ⟨b1, 3, none⟩) :: .bool d.x.fat :: .pointer (some ⟨b1, 4, none⟩) :: .slice oe le ce :: .slice s1 k1 t1 :: .pointer (some ⟨b1, 5, none⟩) :: .slice ow lw cw :: .slice s2 k2 t2 :: undef :: []).toArray, []⟩ ?_
  refine lateP 12 (.agg #[.int .i64 d.x.owner, .int .i64 d.x.count, .bool d.x.fat, .slice s1 k1 t1, .slice s2 k2 t2]) rfl (fun _ => by kernel_rfl) (fun _ => f2) ?_
  refine lateN (true :: true :: true :: true :: true :: true :: true :: true :: true :: true :: true :: true :: true :: false :: []).toArray ⟨(.pointer (some ⟨q, 0, none⟩) :: .int .i64 a :: undef :: undef :: .pointer (some ⟨b0, 0, none⟩) :: .int .i64 (i : Int) :: .pointer (some ⟨b1, 0, none⟩) :: .pointer (some ⟨q, 0, none⟩) :: .int .i64 a :: .int .i64 (i : Int) :: .int .i64 (i : Int) :: .bool (decide ((i : Int) < 0)) :: undef :: .pointer (some ⟨q, 0, none⟩) :: .pointer (some ⟨q, 0, none⟩) :: .pointer (some ⟨q, 0, none⟩) :: .slice (some ⟨b, r, none⟩) n cap :: .int .i64 (i : Int) :: .pointer (some ⟨b, r + i * 6, none⟩) :: .agg #[.int .i64 d.at_, .int .i64 d.x.owner, .int .i64 d.x.count, .bool d.x.fat, .slice oe le ce, .slice ow lw cw] :: .pointer (some ⟨b1, 1, none⟩) :: .int .i64 d.x.owner :: .pointer (some ⟨b1, 2, none⟩) :: .int .i64 d.x.count :: .pointer (some ⟨b1, 3, none⟩) :: .bool d.x.fat :: .pointer (some ⟨b1, 4, none⟩) :: .slice oe le ce :: .slice s1 k1 t1 :: .pointer (some ⟨b1, 5, none⟩) :: .slice ow lw cw :: .slice s2 k2 t2 :: .agg #[.int .i64 d.x.owner, .int .i64 d.x.count, .bool d.x.fat, .slice s1 k1 t1, .slice s2 k2 t2] :: []).toArray, []⟩ ?_
  refine late_all [13] (by kernel_rfl) (by simp) (fun jj hjj => ?_)
  simp only [List.mem_singleton] at hjj
  subst hjj
  have hbz := (HQ2.out _ f2).2.2.2
  refine late_skip rfl (by kernel_rfl) (ev_store 49 4 32 (.pointer (some ⟨b0, 0, none⟩)) (.agg #[.int .i64 d.x.owner, .int .i64 d.x.count, .bool d.x.fat, .slice s1 k1 t1, .slice s2 k2 t2]) (w2.setRow b0 #[.int .i64 d.x.owner, .int .i64 d.x.count, .bool d.x.fat, .slice s1 k1 t1, .slice s2 k2 t2]) rfl (by kernel_rfl) (by kernel_rfl) (st_row hbz (by kernel_rfl) rfl (by kernel_rfl))) ?_
  refine ⟨fun h => by simp at h, ?_⟩
  refine late_done (by kernel_rfl) ?_
  refine hK2 _ _ ?_
  refine wp_ret ?_
  show bodyPost Try.prog Try.f22 _ Exit.ret _ _
  refine bodyPost_ret (results_22 _ b0 _ _ _ _ _ (setRow_heap _ b0 _ _ 49 _ hbz) _ (by kernel_rfl)) (by kernel_rfl) ?_
  have fr := fr_row w2 b0 #[.int .i64 d.x.owner, .int .i64 d.x.count, .bool d.x.fat, .slice s1 k1 t1, .slice s2 k2 t2]
  have nb : ∀ v l, OwnG elI w2 v l → ∀ k, v.ownBlock = some k → ¬ (k = b0) := fun v l o k hk e => by
    obtain ⟨cur, hc⟩ := o.tag hk
    rw [e, hbz] at hc
    simp [elI] at hc
  have o1' := o1.keep g2
  exact ⟨_, _, rfl, o1'.kept fr (nb _ _ o1'), o2.kept fr (nb _ _ o2), (HFW.out.and f2).new fr (fun i hi e => by have := HBS.out; omega)⟩

theorem dLock_any {c : Nat} {w : World} {q : Nat} {T : List (Int × Lk)} (h : DB c w q T) (a : Int) (hl : T.length ≤ 2000) (hb : ∀ p ∈ T, p.2.entry.length + p.2.wait.length ≤ 800000) :
    Calls Try.prog 22 #[.pointer (some ⟨q, 0, none⟩), .int .i64 a] w fun e w' => ∃ v1 v2, e = .returned (.agg #[.int .i64 (dLk T a).owner, .int .i64 (dLk T a).count, .bool (dLk T a).fat, v1, v2]) ∧ OwnG elI w' v1 (fsts (dLk T a).entry) ∧ OwnG elI w' v2 (fsts (dLk T a).wait) ∧ Fr no w w' := by
  obtain ⟨D, hD, rfl⟩ := h
  rw [told_length] at hl
  unfold dLk
  cases hf : fdT (told D) a with
  | none =>
    refine (dLock_none hD a hl hf).mono ?_
    rintro e w' ⟨rfl, f⟩
    exact ⟨_, _, rfl, OwnG.nil _ _, OwnG.nil _ _, f⟩
  | some i =>
    obtain ⟨x, hx, -⟩ := fdT_at hf
    have hbx := hb _ (List.mem_of_getElem? hx)
    obtain ⟨d, hd, -, rfl⟩ := told_at hx
    simp only [hx] at hbx ⊢
    exact dLock_some hD a hl hf hd (by omega) (by omega)
end Go.Proofs.Ytkkpimpmhnnbjaa
