/- One class more. -/
import Derived.Test.YtpfkigoffllieaaGreatDoorJai
import Derived.BigRegion
namespace Go.Proofs.YtpfkigoffllieaaGreatDoor
open Go.ChangeShapes Go.WideShapes Go.ChangeAt Go.RowKit
open H (ky Owns MapOf ix ky_key keyed)

theorem cells3 {w : World} {p : Nat} {x y z : Value} {t : TypeId} (h : w.heap[p]? = some (.cells #[x, y, z] t (0, 0))) :
    w.cell? ⟨p, 0, none⟩ = some x ∧ w.cell? ⟨p, 1, none⟩ = some y ∧ w.cell? ⟨p, 2, none⟩ = some z := by
  refine ⟨?_, ?_, ?_⟩ <;> simp [World.cell?, h]

theorem own_alloc_map {w : World} {b n : Nat} {k : TypeId} {R : Value → Option (DataW Unit × List MemPlace)} {D : DataW Unit} (h : w.ownsMap Tryz.prog k R b n D) {w' : World} (hf : Fr no w w') : w'.ownsMap Tryz.prog k R b n D := by
  have hlt := h.lt
  obtain ⟨es, clock, hb, F, hs, hD⟩ := h
  exact ⟨es, clock, (hf.block b hlt (fun f => f)).trans hb, F, hs, hD⟩

/-- What an added class leaves. -/
theorem PB.added {w0 w : World} {p hp m : Nat} {v : Value} {X : List Lk} {Y : List Li} (h : PB w0 w p hp m v X Y) {c : Cl} {s : Ks} (hc : ClOwn w s c) (hN : ix c.name (Y.map (·.c.name)) = none) (hs : c.name.size ≤ 1099511627776) (hY : Y.length ≤ 1000) :
    ∃ w2, (Instr.mapUpdate 105 (.map (some m)) (.string c.name) (.int .i64 (Y.length : Int))).run Tryz.prog w = .ok () w2 ∧ Fr (fun k => k = m) w w2 ∧ w2.heap[p]? = some (.cells #[.pointer (some ⟨hp, 0, none⟩), .map (some m), v] 111 (0, 0)) ∧ OwnG elLk w2 v X ∧ (∀ wa, Fr no w2 wa → ∀ fm mm v' w3, w2.heap.size ≤ fm → w2.heap.size ≤ mm → fm ≠ mm → Owns wa fm 0 (.map []) → OwnsP wa mm 0 (.map []) →
      OwnG elLk w3 v' (X ++ [⟨s, ⟨none, 0, 0⟩, 0, fm, mm⟩]) → Sp no v wa v' w3 →
      w3.cell? ⟨p, 2, none⟩ = some v ∧ ∃ w4, (Instr.storeAt 109 (.pointer (some ⟨p, 2, none⟩)) v').run Tryz.prog w3 = .ok () w4 ∧ PB w0 w4 p hp m v' (X ++ [⟨s, ⟨none, 0, 0⟩, 0, fm, mm⟩]) (Y ++ [li0 c])) := by
  obtain ⟨D, d1, d2⟩ := h.num
  obtain ⟨em, cm, hbm⟩ := map_lt d1
  obtain ⟨w2, hrun, o1, t1⟩ := d1.store keyed Tryz.underlying105 (by unfold maxLen; omega) (ky_key hs) (plainElem_int (a := (Y.length : Int)) Tryz.underlying3 (WalkArith.wf_i64 (by omega)))
  have ht := H.turned_fr t1
  have npm : p ≠ m := fun e => by
    have := h.pb
    rw [e, hbm] at this
    simp at this
  have nvm : ∀ k, v.ownBlock = some k → k ≠ m := fun k hk e => by
    obtain ⟨cu, hcu⟩ := h.row.tag hk
    rw [e, hbm] at hcu
    simp at hcu
  have hap : Apart (fun k => k = m) w := fun k hk cu e hcu => by
    rw [hk, hbm] at hcu
    simp at hcu
  have r2 := h.row.kept ht nvm
  have p2 := ht.heap h.pb npm
  refine ⟨w2, hrun, ht, p2, r2, fun wa ha fm mm v' w3 hfm hmm hne ofm omm o3 s3 => ?_⟩
  have f2 : Fr no w0 w2 := h.fr.new ht (fun i hi e => by have := h.newp.2.1; omega)
  have fa := f2.new ha (fun _ _ f => f)
  have sF : Fr (fun k => v.ownBlock = some k) wa w3 := s3.1.mono (fun i _ e => e.elim (fun f => f.elim) id)
  have pa := ha.heap p2 (fun f => f)
  have ra := r2.keep ha
  have nvp : v.ownBlock ≠ some p := fun e => by
    obtain ⟨cu, hcu⟩ := ra.tag e
    rw [pa] at hcu
    simp [elLk] at hcu
  have tagv : ∀ {es : Array MapEntry} {cl k : Nat}, wa.heap[k]? = some (.map es cl) → v.ownBlock ≠ some k := fun hk e => by
    obtain ⟨cu, hcu⟩ := ra.tag e
    rw [hk] at hcu
    simp at hcu
  have p3 := sF.heap pa nvp
  obtain ⟨qv, cv, hv'⟩ := o3.form
  obtain ⟨qo, co, hvo⟩ := h.form
  have hst : (Instr.storeAt 109 (.pointer (some ⟨p, 2, none⟩)) v').run Tryz.prog w3 = .ok () (w3.setCell ⟨p, 2, none⟩ v') := by
    have hc2 := (cells3 p3).2.2
    have hz2 : w3.frozen? ⟨p, 2, none⟩ = false := frozen_at p3
    rw [hv']
    simp [go_sem, hc2, hz2]
  have fs : Fr (fun k => k = p) w3 (w3.setCell ⟨p, 2, none⟩ v') := (Fr.refl (fun k => k = p) w3).setCell (p := ⟨p, 2, none⟩) (fun _ => rfl) v'
  have f3 : Fr no w0 w3 := fa.new sF (fun i hi e => by have := h.newp.2.2 i e; omega)
  have nv : NewV w0 v' := fun k hk => by
    by_cases hlt : k < wa.heap.size
    · exact h.newp.2.2 k (s3.2 k hlt hk)
    · have := fa.size
      omega
  have nvp' : ∀ k, v'.ownBlock = some k → ¬ k = p := fun k hk e => by
    obtain ⟨cu, hcu⟩ := o3.tag hk
    rw [e, p3] at hcu
    simp [elLk] at hcu
  obtain ⟨ef, cf, hbf⟩ := map_lt ofm
  obtain ⟨eg, cg', hbg⟩ := map_lt omm
  -- from wa to the end: the old row and p alone
  have fE : Fr (fun k => v.ownBlock = some k ∨ k = p) wa (w3.setCell ⟨p, 2, none⟩ v') := sF.trans fs (fun _ _ e => .inl e) (fun _ _ e => .inr e)
  have hapE : Apart (fun k => v.ownBlock = some k ∨ k = p) wa := fun k hk cu e hcu => by
    rcases hk with hk | rfl
    · obtain ⟨c', hc'⟩ := ra.tag hk
      rw [hcu] at hc'
      simp only [Option.some.injEq, Obj.cells.injEq] at hc'
      rw [hc'.2.1]
      decide
    · rw [pa] at hcu
      simp only [Option.some.injEq, Obj.cells.injEq] at hcu
      rw [← hcu.2.1]
      decide
  have h35E : ∀ k, (v.ownBlock = some k ∨ k = p) → ∀ cu e, wa.heap[k]? = some (.cells cu e (0, 0)) → e ≠ 182 := fun k hk cu e hcu => by
    rcases hk with hk | rfl
    · obtain ⟨c', hc'⟩ := ra.tag hk
      rw [hcu] at hc'
      simp only [Option.some.injEq, Obj.cells.injEq] at hc'
      rw [hc'.2.1]
      decide
    · rw [pa] at hcu
      simp only [Option.some.injEq, Obj.cells.injEq] at hcu
      rw [← hcu.2.1]
      decide
  have mapE : ∀ {es : Array MapEntry} {cl k : Nat}, wa.heap[k]? = some (.map es cl) → ¬ (v.ownBlock = some k ∨ k = p) := fun hk e => by
    rcases e with e | rfl
    · exact tagv hk e
    · rw [pa] at hk
      simp at hk
  have own1a := own_alloc_map o1 ha
  obtain ⟨e5, c5, hb5⟩ := map_lt own1a
  have old : ∀ x ∈ X, x.fm < w2.heap.size ∧ x.mm < w2.heap.size := fun x hx => by
    obtain ⟨i, hi⟩ := List.mem_iff_getElem?.1 hx
    obtain ⟨y, hy⟩ : ∃ y, Y[i]? = some y := ⟨_, List.getElem?_eq_getElem (by rw [← h.len]; exact (List.getElem?_eq_some_iff.1 hi).1)⟩
    obtain ⟨_, q1, _⟩ := (h.at' i x y hi hy).f
    obtain ⟨_, q2, _⟩ := (h.at' i x y hi hy).m
    have := q1.lt
    have := q2.lt
    have := ht.size
    exact ⟨by omega, by omega⟩
  have hmlt : m < w2.heap.size := o1.lt
  refine ⟨(cells3 p3).2.2, _, hst, ⟨f3.new fs (fun i hi e => by have := h.newp.1; omega), ?_, ⟨D.put (ky c.name) (.lit (.int .i64 (Y.length : Int))), ?_, ?_⟩, o3.kept fs nvp', by simp [h.len], fun i x y hx hy => ?_, ⟨h.newp.1, h.newp.2.1, nv⟩, fun x hx => ?_, fun i j x x' hx hx' => ?_, fun x hx => ?_⟩⟩
  · exact set_at p3
  · have := H.owns_keep own1a fE (mapE hb5)
    simpa using this
  · rw [List.map_append]
    have := H.mapOf_put d2 hN
    rw [List.length_map] at this
    exact this
  · by_cases hi : i < X.length
    · rw [List.getElem?_append_left hi] at hx
      rw [List.getElem?_append_left (by rw [← h.len]; exact hi)] at hy
      have L := h.at' i x y hx hy
      have dmx := h.dm x (List.mem_of_getElem? hx)
      have L2 : LkAt w2 x y := L.kept ht hap (fun k hk cu e hcu => by rw [hk, hbm] at hcu; simp at hcu) (fun e => dmx.1 e.symm) (fun e => dmx.2 e.symm)
      have La := L2.keep ha
      obtain ⟨_, q1, _⟩ := La.f
      obtain ⟨_, q2, _⟩ := La.m
      obtain ⟨_, _, b1⟩ := map_lt q1
      obtain ⟨_, _, b2⟩ := map_lt q2
      exact La.kept fE hapE h35E (mapE b1) (mapE b2)
    · have hxl := (List.getElem?_eq_some_iff.1 hx).1
      simp only [List.length_append, List.length_singleton] at hxl
      have e : i = X.length := by omega
      subst e
      rw [List.getElem?_append_right (Nat.le_refl _), Nat.sub_self] at hx
      rw [h.len, List.getElem?_append_right (Nat.le_refl _), Nat.sub_self] at hy
      simp only [List.getElem?_cons_zero, Option.some.injEq] at hx hy
      subst hx hy
      refine ⟨((hc.kept ht hap).keep ha).kept fE hapE, OwnG.nil _ _, rfl, ⟨_, H.owns_keep ofm fE (mapE hbf), mapG_nil _ _⟩, ⟨_, ownsP_keep omm fE (mapE hbg), mapG_nil _ _⟩⟩
  · rcases List.mem_append.1 hx with hx | hx
    · exact h.newx x hx
    · simp only [List.mem_singleton] at hx
      subst hx
      have := f2.size
      exact ⟨by show _ ≤ fm; omega, by show _ ≤ mm; omega⟩
  · have key : ∀ (i : Nat) (x : Lk), (X ++ [⟨s, ⟨none, 0, 0⟩, 0, fm, mm⟩])[i]? = some x → (X[i]? = some x ∧ x.fm < w2.heap.size ∧ x.mm < w2.heap.size) ∨ (i = X.length ∧ x.fm = fm ∧ x.mm = mm) := fun i x hx => by
      by_cases hi : i < X.length
      · rw [List.getElem?_append_left hi] at hx
        exact .inl ⟨hx, old x (List.mem_of_getElem? hx)⟩
      · have hxl := (List.getElem?_eq_some_iff.1 hx).1
        simp only [List.length_append, List.length_singleton] at hxl
        have e : i = X.length := by omega
        subst e
        rw [List.getElem?_append_right (Nat.le_refl _), Nat.sub_self] at hx
        simp only [List.getElem?_cons_zero, Option.some.injEq] at hx
        subst hx
        exact .inr ⟨rfl, rfl, rfl⟩
    rcases key i x hx with ⟨h1, l1, l2⟩ | ⟨rfl, a1, a2⟩ <;> rcases key j x' hx' with ⟨h2, l3, l4⟩ | ⟨rfl, b1, b2⟩
    · exact h.dis i j x x' h1 h2
    · exact ⟨by omega, fun _ => ⟨by omega, by omega⟩⟩
    · exact ⟨by omega, fun _ => ⟨by omega, by omega⟩⟩
    · exact ⟨by omega, fun hne' => absurd rfl hne'⟩
  · rcases List.mem_append.1 hx with hx | hx
    · exact h.dm x hx
    · simp only [List.mem_singleton] at hx
      subst hx
      exact ⟨by show m ≠ fm; omega, by show m ≠ mm; omega⟩
end Go.Proofs.YtpfkigoffllieaaGreatDoor

/- The class of a name that is there; where a method stands; the slot of a field. -/
namespace Go.Proofs.YtpfkigoffllieaaGreatDoor
open Go.ChangeShapes Go.WideShapes Go.ChangeAt Go.RowKit
open H (ky Owns MapOf ix)

theorem results_75 (w : World) (r : Nat) (x0 x1 x2 x3 x4 : Value) (h : w.heap[r]? = some (.cells #[x0, x1, x2, x3, x4] 68 (0, 0))) (tmps : Array Value) (h2 : tmps.getD 4 undef = .pointer (some ⟨r, 0, none⟩)) :
    (results Tryz.f89 tmps).run Tryz.prog w = .ok (.agg #[x0, x1, x2, x3, x4]) w := by
  have hl : (loadVar 68 ⟨r, 0, none⟩).run Tryz.prog w = .ok (.agg #[x0, x1, x2, x3, x4]) w := run_loadVar_row (P := Tryz.prog) w r 68 68 #[x0, x1, x2, x3, x4] (0, 0) _ h Tryz.underlying68 rfl (by kernel_rfl)
  have h2' : tmps[4]?.getD undef = .pointer (some ⟨r, 0, none⟩) := by simpa using h2
  simp [results, asAddr, h2', hl]

def namesY (Y : List Li) : List ByteArray := Y.map (·.c.name)

theorem PB.look {w0 w : World} {p hp m : Nat} {v : Value} {X : List Lk} {Y : List Li} (h : PB w0 w p hp m v X Y) (s : ByteArray) (hs : s.size ≤ 1099511627776) :
    ∃ c : Int, (Instr.lookup 105 (.map (some m)) (.string s) true).run Tryz.prog w = .ok (.tuple #[.int .i64 c, .bool (ix s (namesY Y)).isSome]) w ∧ (Instr.lookup 105 (.map (some m)) (.string s) false).run Tryz.prog w = .ok (.int .i64 c) w ∧ ∀ i : Nat, ix s (namesY Y) = some i → c = (i : Int) := by
  obtain ⟨D, d1, d2⟩ := h.num
  exact lookI d1 (mapG_of d2) s hs

set_option maxRecDepth 100000 in
set_option maxHeartbeats 2000000 in
theorem named_any (w0 w : World) (p hp m : Nat) (v : Value) (X : List Lk) (Y : List Li) (h : PB w0 w p hp m v X Y) (s : ByteArray) (hs : s.size ≤ 1099511627776) (i : Nat) (hi : ix s (namesY Y) = some i) :
    Calls Tryz.prog 89 #[.pointer (some ⟨p, 0, none⟩), .string s] w fun e w' => ∃ x, X[i]? = some x ∧ e = .returned (ksV x.k) ∧ Fr no w w' := by
  have hil : i < Y.length := by have := H.ix_lt hi; simpa [namesY] using this
  obtain ⟨x, y, hx, hy, L⟩ := h.get hil
  have G0 : Fr no w (w.alloc (.cells #[.string ⟨#[]⟩, .string ⟨#[]⟩, .slice none 0 0, .slice none 0 0, .slice none 0 0] 68)) := (Fr.refl no w).alloc _ _
  have E0 : (w.alloc (.cells #[.string ⟨#[]⟩, .string ⟨#[]⟩, .slice none 0 0, .slice none 0 0, .slice none 0 0] 68)).heap[w.heap.size]? = some (.cells #[.string ⟨#[]⟩, .string ⟨#[]⟩, .slice none 0 0, .slice none 0 0, .slice none 0 0] 68 (0, 0)) := heap_alloc_new w _
  have P0 := h.keep G0
  obtain ⟨c, -, hl, hc⟩ := (P0.keep (Fr.refl no _).drew).look s hs
  obtain rfl := hc i hi
  obtain ⟨qv, cv, rfl⟩ := h.form
  obtain ⟨b0, b1, b2⟩ := cells3 P0.pb
  obtain ⟨g, rfl⟩ := P0.row.some_of (fun e => by rw [e] at hx; simp at hx)
  have d : ∀ j u, (lkC x)[j]? = some u → _ := fun j u hj => P0.row.cell okLk hx hj
  have d0 := d 0 _ rfl
  have d1 := d 1 _ rfl
  have d2 := d 2 _ rfl
  have d3 := d 3 _ rfl
  have d4 := d 4 _ rfl
  simp only [elLk, Nat.add_zero] at d0 d1 d2 d3 d4
  have hil' : (i : Int) < (Y.length : Int) := by omega
  obtain ⟨y0, y1, y2, y3, y4⟩ := box5 E0
  have fz := fun o => frozen_at (o := o) E0
  have HZ : Hid (_ ∧ _ ∧ _) := ⟨E0, G0, hx⟩
  have hgw : g ≠ w.heap.size := fun e => by
    have := h.row.lt (k := g) rfl
    omega
  have hpw : p ≠ w.heap.size := fun e => by
    have := lt_of_heap h.pb
    omega
  clear h hs hi L hc d P0 E0 G0 hy hil hx
  unfold ksV
  generalize hW : w.alloc (.cells #[.string ⟨#[]⟩, .string ⟨#[]⟩, .slice none 0 0, .slice none 0 0, .slice none 0 0] 68) = W at *
  generalize hYl : Y.length = n at *
  go_enter Tryz.func89, Tryz.ntmps89
  go_wp2_with fail
  have HC5 : Hid (_) := chain5 HZ.out.1 (.string x.k.name) (.string x.k.super) (.slice x.k.p.a x.k.p.n x.k.p.c) (.slice x.k.f.a x.k.f.n x.k.f.c) (.slice x.k.m.a x.k.m.n x.k.m.c)
  have HF5 : Hid (_) := frc5 W w.heap.size (.string x.k.name) (.string x.k.super) (.slice x.k.p.a x.k.p.n x.k.p.c) (.slice x.k.f.a x.k.f.n x.k.f.c) (.slice x.k.m.a x.k.m.n x.k.m.c)
  go_region
  generalize hV : ((((W.setCell ⟨w.heap.size, 0, none⟩ (.string x.k.name)).setCell ⟨w.heap.size, 1, none⟩ (.string x.k.super)).setCell ⟨w.heap.size, 2, none⟩ (.slice x.k.p.a x.k.p.n x.k.p.c)).setCell ⟨w.heap.size, 3, none⟩ (.slice x.k.f.a x.k.f.n x.k.f.c)).setCell ⟨w.heap.size, 4, none⟩ (.slice x.k.m.a x.k.m.n x.k.m.c) = V at *
  have hV5 : V.drew.heap[w.heap.size]? = some (.cells #[.string x.k.name, .string x.k.super, .slice x.k.p.a x.k.p.n x.k.p.c, .slice x.k.f.a x.k.f.n x.k.f.c, .slice x.k.m.a x.k.m.n x.k.m.c] 68 (0, 0)) := HC5.out
  have HFD : Hid (Fr no w V.drew) := (HZ.out.2.1.new HF5.out (fun i hi e => by omega)).drew
  generalize hU : V.drew = U at *
  go_wp2_with fail
  refine bodyPost_ret (results_75 U w.heap.size (.string x.k.name) (.string x.k.super) (.slice x.k.p.a x.k.p.n x.k.p.c) (.slice x.k.f.a x.k.f.n x.k.f.c) (.slice x.k.m.a x.k.m.n x.k.m.c) hV5 _ rfl) rfl ?_
  exact ⟨x, HZ.out.2.2, rfl, HFD.out⟩
end Go.Proofs.YtpfkigoffllieaaGreatDoor

/- A class is laid out. -/
namespace Go.Proofs.YtpfkigoffllieaaGreatDoor
open Go.ChangeShapes Go.WideShapes Go.ChangeAt Go.RowKit
open H (ky Owns MapOf ix up nameAt anc Fine)

theorem layN_append (Cs : List Cl) (y : Li) : ∀ (l r : List Nat), layN Cs y (l ++ r) = layN Cs (layN Cs y l) r := by
  intro l
  induction l generalizing y with
  | nil => intro r; rfl
  | cons j l ih => intro r; exact ih _ r

theorem rev_drop {l : List Nat} {k j : Nat} (h : l[k]? = some j) : (l.drop k).reverse = (l.drop (k + 1)).reverse ++ [j] := by
  obtain ⟨hk, e⟩ := List.getElem?_eq_some_iff.1 h
  rw [← List.getElem_cons_drop hk, e, List.reverse_cons]

theorem takeFs_cls (cn : ByteArray) : ∀ (l : List Fd) (y : Li), (takeFs cn y l).c = y.c
  | [], _ => rfl
  | _ :: r, _ => takeFs_cls cn r _
theorem takeMs_cls (num : Nat) : ∀ (l : List Mt) (a : Nat) (y : Li), (takeMs num a y l).c = y.c
  | [], _, _ => rfl
  | _ :: r, _, _ => takeMs_cls num r _ _
theorem takeC_cls (y : Li) (num : Nat) (c : Cl) : (takeC y num c).c = y.c := by unfold takeC; rw [takeMs_cls, takeFs_cls]

theorem takeFs_bd (cn : ByteArray) : ∀ (l : List Fd) (y : Li), (takeFs cn y l).slots.length = y.slots.length + l.length ∧ (takeFs cn y l).nm = y.nm ∧ (0 ≤ y.words → 0 ≤ (takeFs cn y l).words) ∧ (takeFs cn y l).words ≤ y.words + 2 * l.length
  | [], y => ⟨rfl, rfl, id, by show y.words ≤ y.words + 2 * 0; omega⟩
  | f :: r, y => by
    obtain ⟨h1, h2, h3, h4⟩ := takeFs_bd cn r (takeF cn y f)
    have hb := words_bound f.ty
    have e1 : (takeF cn y f).slots.length = y.slots.length + 1 := by simp [takeF]
    have e2 : (takeF cn y f).words = y.words + H.words f.ty := rfl
    have e3 : (takeF cn y f).nm = y.nm := rfl
    unfold takeFs
    simp only [List.length_cons]
    refine ⟨by omega, by rw [h2, e3], fun h => h3 (by omega), by push_cast; omega⟩
theorem takeMs_bd (num : Nat) : ∀ (l : List Mt) (a : Nat) (y : Li), (takeMs num a y l).slots = y.slots ∧ (takeMs num a y l).words = y.words ∧ (takeMs num a y l).nm = y.nm + l.length
  | [], _, _ => ⟨rfl, rfl, rfl⟩
  | m :: r, a, y => by
    obtain ⟨h1, h2, h3⟩ := takeMs_bd num r (a + 1) (takeM num a y m)
    unfold takeMs
    refine ⟨h1, h2, ?_⟩
    rw [h3]
    simp only [takeM, List.length_cons]
    omega

/-- How much a layout may have. -/
def Bd (n : Nat) (y : Li) : Prop := y.slots.length ≤ n * 1000 ∧ (0 ≤ y.words ∧ y.words ≤ 2 * (n * 1000 : Nat)) ∧ y.nm ≤ n * 1000

theorem takeC_bd {n : Nat} {y : Li} (h : Bd n y) (num : Nat) {c : Cl} (h1 : c.fields.length ≤ 1000) (h2 : c.methods.length ≤ 1000) : Bd (n + 1) (takeC y num c) := by
  obtain ⟨a1, a2, a3⟩ := takeMs_bd num c.methods 0 (takeFs c.name y c.fields)
  obtain ⟨b1, b2, b3, b4⟩ := takeFs_bd c.name c.fields y
  obtain ⟨c1, c2, c3⟩ := h
  have e1 : (takeC y num c).slots.length = y.slots.length + c.fields.length := by unfold takeC; rw [a1, b1]
  have e2 : (takeC y num c).words = (takeFs c.name y c.fields).words := a2
  have e3 : (takeC y num c).nm = y.nm + c.methods.length := by unfold takeC; rw [a3, b2]
  have b3' := b3 c2.1
  refine ⟨by rw [e1, Nat.add_mul]; omega, ⟨by rw [e2]; exact b3', ?_⟩, by rw [e3, Nat.add_mul]; omega⟩
  rw [e2]
  have : ((n + 1) * 1000 : Nat) = n * 1000 + 1000 := by omega
  omega

/-- Where the class of number i lies. -/
theorem PB.site {w0 w : World} {p hp m : Nat} {v : Value} {X : List Lk} {Y : List Li} (h : PB w0 w p hp m v X Y) {i : Nat} {x : Lk} {y : Li} (hx : X[i]? = some x) (hy : Y[i]? = some y) : ∃ g cap cur, v = .slice (some ⟨g, 0, none⟩) Y.length cap ∧ w.heap[g]? = some (.cells cur 119 (0, 0)) ∧ Site w g (i * 9) cur x.fm x.mm ∧
    ∀ j u, (lkC x)[j]? = some u → cur[i * 9 + j]? = some u := by
  obtain ⟨q, cap, rfl⟩ := h.form
  obtain ⟨g, rfl⟩ := h.row.some_of (fun e => by rw [e] at hx; simp at hx)
  obtain ⟨cur, hcur, -, hcap, -, hsz, -, -⟩ := h.row.cur
  have hil : i < X.length := (List.getElem?_eq_some_iff.1 hx).1
  have hc : ∀ j u, (lkC x)[j]? = some u → cur[i * 9 + j]? = some u := fun j u hj => by
    have := h.row.cell okLk hx hj
    rw [cell_at hcur] at this
    exact this
  have L := h.at' i x y hx hy
  obtain ⟨_, q1, _⟩ := L.f
  obtain ⟨_, q2, _⟩ := L.m
  refine ⟨g, cap, cur, rfl, hcur, ⟨hcur, ?_, hc 7 _ rfl, hc 8 _ rfl, map_lt q1, map_lt q2, (h.dis i i x x hx hx).1⟩, hc⟩
  rw [hsz]
  show i * 9 + 9 ≤ cap * 9
  omega

theorem mid0 {w1 : World} {x : Lk} {y : Li} (L : LkAt w1 x y) (hx0 : x.s = ⟨none, 0, 0⟩) {g i : Nat} {cur : Array Value} (hcur : w1.heap[g]? = some (.cells cur 119 (0, 0))) (hcell : ∀ j u, (lkC x)[j]? = some u → cur[i * 9 + j]? = some u) : MidY w1 w1 g (i * 9) cur x.fm x.mm y := by
  have h5 := hcell 5 _ rfl
  have h6 := hcell 6 _ rfl
  have hs := L.s
  rw [hx0] at h5 hs
  rw [L.wd] at h6
  exact ⟨Fr.refl _ _, ⟨cur, ⟨none, 0, 0⟩, hcur, rfl, h5, h6, fun _ _ _ => rfl, hs, NewV.nil _⟩, L.f, L.m⟩

theorem namesY_set {Y : List Li} {i : Nat} {y y' : Li} (hy : Y[i]? = some y) (hc : y'.c = y.c) : namesY (Y.set i y') = namesY Y := by
  unfold namesY
  apply List.ext_getElem?
  intro j
  by_cases hj : i = j
  · subst hj
    rw [List.getElem?_map, List.getElem?_map, List.getElem?_set_self (List.getElem?_eq_some_iff.1 hy).1, hy]
    simp [hc]
  · rw [List.getElem?_map, List.getElem?_map, List.getElem?_set_ne hj]

theorem layN_cls (Cs : List Cl) : ∀ (l : List Nat) (y : Li), (layN Cs y l).c = y.c
  | [], _ => rfl
  | j :: r, y => by unfold layN; rw [layN_cls Cs r, takeC_cls]
end Go.Proofs.YtpfkigoffllieaaGreatDoor
