/- The class of a name that is there; where a method stands; the slot of a field. -/
import Derived.Test.YtalgjpmaafooeaaGreatDoorKag
import Derived.BigRegion
namespace Go.Proofs.YtalgjpmaafooeaaGreatDoor
open Go.ChangeShapes Go.WideShapes Go.ChangeAt Go.RowKit
open H (ky Owns MapOf ix)
theorem results_75 (w : World) (r : Nat) (x0 x1 x2 x3 x4 : Value) (h : w.heap[r]? = some (.cells #[x0, x1, x2, x3, x4] 51 (0, 0))) (tmps : Array Value) (h2 : tmps.getD 4 undef = .pointer (some ⟨r, 0, none⟩)) :
 (results Tryz.f86 tmps).run Tryz.prog w = .ok (.agg #[x0, x1, x2, x3, x4]) w := by
 have hl : (loadVar 51 ⟨r, 0, none⟩).run Tryz.prog w = .ok (.agg #[x0, x1, x2, x3, x4]) w := run_loadVar_row (P := Tryz.prog) w r 51 51 #[x0, x1, x2, x3, x4] (0, 0) _ h Tryz.underlying51 rfl (by kernel_rfl)
 have h2' : tmps[4]?.getD undef = .pointer (some ⟨r, 0, none⟩) := by simpa using h2
 simp [results, asAddr, h2', hl]
def namesY (Y : List Li) : List ByteArray := Y.map (·.c.name)
theorem PB.look {w0 w : World} {p hp m : Nat} {v : Value} {X : List Lk} {Y : List Li} (h : PB w0 w p hp m v X Y) (s : ByteArray) (hs : s.size ≤ 1099511627776) :
 ∃ c : Int, (Instr.lookup 114 (.map (some m)) (.string s) true).run Tryz.prog w = .ok (.tuple #[.int .i64 c, .bool (ix s (namesY Y)).isSome]) w ∧ (Instr.lookup 114 (.map (some m)) (.string s) false).run Tryz.prog w = .ok (.int .i64 c) w ∧ ∀ i : Nat, ix s (namesY Y) = some i → c = (i : Int) := by
 obtain ⟨D, d1, d2⟩ := h.num
 exact lookI d1 (mapG_of d2) s hs
set_option maxRecDepth 100000 in
set_option maxHeartbeats 2000000 in
theorem named_any (w0 w : World) (p hp m : Nat) (v : Value) (X : List Lk) (Y : List Li) (h : PB w0 w p hp m v X Y) (s : ByteArray) (hs : s.size ≤ 1099511627776) (i : Nat) (hi : ix s (namesY Y) = some i) :
 Calls Tryz.prog 86 #[.pointer (some ⟨p, 0, none⟩), .string s] w fun e w' => ∃ x, X[i]? = some x ∧ e = .returned (ksV x.k) ∧ Fr no w w' := by
 have hil : i < Y.length := by have := H.ix_lt hi; simpa [namesY] using this
 obtain ⟨x, y, hx, hy, L⟩ := h.get hil
 have G0 : Fr no w (w.alloc (.cells #[.string ⟨#[]⟩, .string ⟨#[]⟩, .slice none 0 0, .slice none 0 0, .slice none 0 0] 51)) := (Fr.refl no w).alloc _ _
 have E0 : (w.alloc (.cells #[.string ⟨#[]⟩, .string ⟨#[]⟩, .slice none 0 0, .slice none 0 0, .slice none 0 0] 51)).heap[w.heap.size]? = some (.cells #[.string ⟨#[]⟩, .string ⟨#[]⟩, .slice none 0 0, .slice none 0 0, .slice none 0 0] 51 (0, 0)) := heap_alloc_new w _
 have P0 := h.keep G0
 obtain ⟨c, -, hl, hc⟩ := (P0.keep (Fr.refl no _).drew).look s hs
 obtain rfl := hc i hi
 obtain ⟨qv, cv, rfl⟩ := h.form
 obtain ⟨b0, b1, b2⟩ := cells3 P0.pb
 obtain ⟨g, rfl⟩ := P0.row.some_of (fun e => by rw [e] at hx; simp at hx)
 have d : ∀ j u, (lkC x)[j]? = some u → _ := fun j u hj => P0.row.cell okLk hx hj
 have d0 := d 0 _ rfl
 have d1 := d 1 _ rfl
 have d2 := d 2 _ rfl
 have d3 := d 3 _ rfl
 have d4 := d 4 _ rfl
 simp only [elLk, Nat.add_zero] at d0 d1 d2 d3 d4
 have hil' : (i : Int) < (Y.length : Int) := by omega
 obtain ⟨y0, y1, y2, y3, y4⟩ := box5 E0
 have fz := fun o => frozen_at (o := o) E0
 have HZ : Hid (_ ∧ _ ∧ _) := ⟨E0, G0, hx⟩
 have hgw : g ≠ w.heap.size := fun e => by
  have := h.row.lt (k := g) rfl
  omega
 have hpw : p ≠ w.heap.size := fun e => by
  have := lt_of_heap h.pb
  omega
 clear h hs hi L hc d P0 E0 G0 hy hil hx
 unfold ksV
 generalize hW : w.alloc (.cells #[.string ⟨#[]⟩, .string ⟨#[]⟩, .slice none 0 0, .slice none 0 0, .slice none 0 0] 51) = W at *
 generalize hYl : Y.length = n at *
 go_enter Tryz.func86, Tryz.ntmps86
 go_wp2_with fail
 have HC5 : Hid (_) := chain5 HZ.out.1 (.string x.k.name) (.string x.k.super) (.slice x.k.p.a x.k.p.n x.k.p.c) (.slice x.k.f.a x.k.f.n x.k.f.c) (.slice x.k.m.a x.k.m.n x.k.m.c)
 have HF5 : Hid (_) := frc5 W w.heap.size (.string x.k.name) (.string x.k.super) (.slice x.k.p.a x.k.p.n x.k.p.c) (.slice x.k.f.a x.k.f.n x.k.f.c) (.slice x.k.m.a x.k.m.n x.k.m.c)
 go_region
 generalize hV : ((((W.setCell ⟨w.heap.size, 0, none⟩ (.string x.k.name)).setCell ⟨w.heap.size, 1, none⟩ (.string x.k.super)).setCell ⟨w.heap.size, 2, none⟩ (.slice x.k.p.a x.k.p.n x.k.p.c)).setCell ⟨w.heap.size, 3, none⟩ (.slice x.k.f.a x.k.f.n x.k.f.c)).setCell ⟨w.heap.size, 4, none⟩ (.slice x.k.m.a x.k.m.n x.k.m.c) = V at *
 have hV5 : V.drew.heap[w.heap.size]? = some (.cells #[.string x.k.name, .string x.k.super, .slice x.k.p.a x.k.p.n x.k.p.c, .slice x.k.f.a x.k.f.n x.k.f.c, .slice x.k.m.a x.k.m.n x.k.m.c] 51 (0, 0)) := HC5.out
 have HFD : Hid (Fr no w V.drew) := (HZ.out.2.1.new HF5.out (fun i hi e => by omega)).drew
 generalize hU : V.drew = U at *
 go_wp2_with fail
 refine bodyPost_ret (results_75 U w.heap.size (.string x.k.name) (.string x.k.super) (.slice x.k.p.a x.k.p.n x.k.p.c) (.slice x.k.f.a x.k.f.n x.k.f.c) (.slice x.k.m.a x.k.m.n x.k.m.c) hV5 _ rfl) rfl ?_
 exact ⟨x, HZ.out.2.2, rfl, HFD.out⟩
end Go.Proofs.YtalgjpmaafooeaaGreatDoor
/- A class is laid out. -/
namespace Go.Proofs.YtalgjpmaafooeaaGreatDoor
open Go.ChangeShapes Go.WideShapes Go.ChangeAt Go.RowKit
open H (ky Owns MapOf ix up nameAt anc Fine)
theorem layN_append (Cs : List Cl) (y : Li) : ∀ (l r : List Nat), layN Cs y (l ++ r) = layN Cs (layN Cs y l) r := by
 intro l
 induction l generalizing y with
 | nil => intro r; rfl
 | cons j l ih => intro r; exact ih _ r
theorem rev_drop {l : List Nat} {k j : Nat} (h : l[k]? = some j) : (l.drop k).reverse = (l.drop (k + 1)).reverse ++ [j] := by
 obtain ⟨hk, e⟩ := List.getElem?_eq_some_iff.1 h
 rw [← List.getElem_cons_drop hk, e, List.reverse_cons]
theorem takeFs_cls (cn : ByteArray) : ∀ (l : List Fd) (y : Li), (takeFs cn y l).c = y.c
 | [], _ => rfl
 | _ :: r, _ => takeFs_cls cn r _
theorem takeMs_cls (num : Nat) : ∀ (l : List Mt) (a : Nat) (y : Li), (takeMs num a y l).c = y.c
 | [], _, _ => rfl
 | _ :: r, _, _ => takeMs_cls num r _ _
theorem takeC_cls (y : Li) (num : Nat) (c : Cl) : (takeC y num c).c = y.c := by unfold takeC; rw [takeMs_cls, takeFs_cls]
theorem takeFs_bd (cn : ByteArray) : ∀ (l : List Fd) (y : Li), (takeFs cn y l).slots.length = y.slots.length + l.length ∧ (takeFs cn y l).nm = y.nm ∧ (0 ≤ y.words → 0 ≤ (takeFs cn y l).words) ∧ (takeFs cn y l).words ≤ y.words + 2 * l.length
 | [], y => ⟨rfl, rfl, id, by show y.words ≤ y.words + 2 * 0; omega⟩
 | f :: r, y => by
  obtain ⟨h1, h2, h3, h4⟩ := takeFs_bd cn r (takeF cn y f)
  have hb := words_bound f.ty
  have e1 : (takeF cn y f).slots.length = y.slots.length + 1 := by simp [takeF]
  have e2 : (takeF cn y f).words = y.words + H.words f.ty := rfl
  have e3 : (takeF cn y f).nm = y.nm := rfl
  unfold takeFs
  simp only [List.length_cons]
  refine ⟨by omega, by rw [h2, e3], fun h => h3 (by omega), by push_cast; omega⟩
theorem takeMs_bd (num : Nat) : ∀ (l : List Mt) (a : Nat) (y : Li), (takeMs num a y l).slots = y.slots ∧ (takeMs num a y l).words = y.words ∧ (takeMs num a y l).nm = y.nm + l.length
 | [], _, _ => ⟨rfl, rfl, rfl⟩
 | m :: r, a, y => by
  obtain ⟨h1, h2, h3⟩ := takeMs_bd num r (a + 1) (takeM num a y m)
  unfold takeMs
  refine ⟨h1, h2, ?_⟩
  rw [h3]
  simp only [takeM, List.length_cons]
  omega
def Bd (n : Nat) (y : Li) : Prop := y.slots.length ≤ n * 1000 ∧ (0 ≤ y.words ∧ y.words ≤ 2 * (n * 1000 : Nat)) ∧ y.nm ≤ n * 1000
theorem takeC_bd {n : Nat} {y : Li} (h : Bd n y) (num : Nat) {c : Cl} (h1 : c.fields.length ≤ 1000) (h2 : c.methods.length ≤ 1000) : Bd (n + 1) (takeC y num c) := by
 obtain ⟨a1, a2, a3⟩ := takeMs_bd num c.methods 0 (takeFs c.name y c.fields)
 obtain ⟨b1, b2, b3, b4⟩ := takeFs_bd c.name c.fields y
 obtain ⟨c1, c2, c3⟩ := h
 have e1 : (takeC y num c).slots.length = y.slots.length + c.fields.length := by unfold takeC; rw [a1, b1]
 have e2 : (takeC y num c).words = (takeFs c.name y c.fields).words := a2
 have e3 : (takeC y num c).nm = y.nm + c.methods.length := by unfold takeC; rw [a3, b2]
 have b3' := b3 c2.1
 refine ⟨by rw [e1, Nat.add_mul]; omega, ⟨by rw [e2]; exact b3', ?_⟩, by rw [e3, Nat.add_mul]; omega⟩
 rw [e2]
 have : ((n + 1) * 1000 : Nat) = n * 1000 + 1000 := by omega
 omega
theorem PB.site {w0 w : World} {p hp m : Nat} {v : Value} {X : List Lk} {Y : List Li} (h : PB w0 w p hp m v X Y) {i : Nat} {x : Lk} {y : Li} (hx : X[i]? = some x) (hy : Y[i]? = some y) : ∃ g cap cur, v = .slice (some ⟨g, 0, none⟩) Y.length cap ∧ w.heap[g]? = some (.cells cur 128 (0, 0)) ∧ Site w g (i * 9) cur x.fm x.mm ∧
 ∀ j u, (lkC x)[j]? = some u → cur[i * 9 + j]? = some u := by
 obtain ⟨q, cap, rfl⟩ := h.form
 obtain ⟨g, rfl⟩ := h.row.some_of (fun e => by rw [e] at hx; simp at hx)
 obtain ⟨cur, hcur, -, hcap, -, hsz, -, -⟩ := h.row.cur
 have hil : i < X.length := (List.getElem?_eq_some_iff.1 hx).1
 have hc : ∀ j u, (lkC x)[j]? = some u → cur[i * 9 + j]? = some u := fun j u hj => by
  have := h.row.cell okLk hx hj
  rw [cell_at hcur] at this
  exact this
 have L := h.at' i x y hx hy
 obtain ⟨_, q1, _⟩ := L.f
 obtain ⟨_, q2, _⟩ := L.m
 refine ⟨g, cap, cur, rfl, hcur, ⟨hcur, ?_, hc 7 _ rfl, hc 8 _ rfl, map_lt q1, map_lt q2, (h.dis i i x x hx hx).1⟩, hc⟩
 rw [hsz]
 show i * 9 + 9 ≤ cap * 9
 omega
theorem mid0 {w1 : World} {x : Lk} {y : Li} (L : LkAt w1 x y) (hx0 : x.s = ⟨none, 0, 0⟩) {g i : Nat} {cur : Array Value} (hcur : w1.heap[g]? = some (.cells cur 128 (0, 0))) (hcell : ∀ j u, (lkC x)[j]? = some u → cur[i * 9 + j]? = some u) : MidY w1 w1 g (i * 9) cur x.fm x.mm y := by
 have h5 := hcell 5 _ rfl
 have h6 := hcell 6 _ rfl
 have hs := L.s
 rw [hx0] at h5 hs
 rw [L.wd] at h6
 exact ⟨Fr.refl _ _, ⟨cur, ⟨none, 0, 0⟩, hcur, rfl, h5, h6, fun _ _ _ => rfl, hs, NewV.nil _⟩, L.f, L.m⟩
theorem namesY_set {Y : List Li} {i : Nat} {y y' : Li} (hy : Y[i]? = some y) (hc : y'.c = y.c) : namesY (Y.set i y') = namesY Y := by
 unfold namesY
 apply List.ext_getElem?
 intro j
 by_cases hj : i = j
 · subst hj
   rw [List.getElem?_map, List.getElem?_map, List.getElem?_set_self (List.getElem?_eq_some_iff.1 hy).1, hy]
   simp [hc]
 · rw [List.getElem?_map, List.getElem?_map, List.getElem?_set_ne hj]
theorem layN_cls (Cs : List Cl) : ∀ (l : List Nat) (y : Li), (layN Cs y l).c = y.c
 | [], _ => rfl
 | j :: r, y => by unfold layN; rw [layN_cls Cs r, takeC_cls]
end Go.Proofs.YtalgjpmaafooeaaGreatDoor
/- A class is laid out: the program's call. -/
namespace Go.Proofs.YtalgjpmaafooeaaGreatDoor
open Go.ChangeShapes Go.WideShapes Go.ChangeAt Go.RowKit
open H (ky Owns MapOf ix up nameAt anc Fine)
structure Good (Y : List Li) : Prop where
 fit : ∀ y ∈ Y, FitC y.c
 f : ∀ y ∈ Y, y.c.fields.length ≤ 1000
 m : ∀ y ∈ Y, y.c.methods.length ≤ 1000
def LayAt (w : World) (p i g : Nat) (cur : Array Value) (f m : Nat) (N : List ByteArray) (W : List Nat) (Cs : List Cl) (c : Cl) (a : Act) (wr : World) : Prop :=
 ∃ (w1 : World) (qw : Option Addr) (cw k : Nat) (yk : Li) (u2 u3 u6 u7 u8 u9 u10 u11 u12 u13 u14 u15 u16 u17 u18 u19 u20 u21 u22 u23 u24 u25 u26 u27 u28 u29 u30 u31 u32 u33 u34 u35 u36 u37 u38 u39 u40 u41 u42 u43 u44 u45 : Value), a = { tmps := #[.pointer (some ⟨p, 0, none⟩), .int .i64 (i : Int), u2, u3, .pointer (some ⟨g, i * 9, none⟩), .slice qw W.length cw, u6, u7, u8, u9, u10, u11, u12, u13, u14, u15, u16, u17, u18, u19, u20, u21, u22, u23, u24, u25, u26, u27, u28, u29, u30, u31, u32, u33, u34, u35, u36, u37, u38, u39, u40, u41, u42, u43, u44, u45], defers := [] } ∧ u6 = .int .i64 (k : Int) ∧ k ≤ W.length ∧ Fr no w w1 ∧ H.OwnG H.elS w1 (.slice qw W.length cw) (W.map (nameAt N)) ∧ MidY w1 wr g (i * 9) cur f m yk ∧ yk = layN Cs (li0 c) (W.drop k).reverse ∧ Bd (W.length - k) yk
set_option maxRecDepth 100000 in
set_option maxHeartbeats 4000000 in
theorem layOut_any (w0 w : World) (p hp m : Nat) (v : Value) (X : List Lk) (Y : List Li) (h : PB w0 w p hp m v X Y) (ch : Nat) (A : List Nat) (hH : H.HB ch w0 hp (namesY Y) A) (hA : Fine (namesY Y).length A) (hnd : (namesY Y).Nodup) (hlen : Y.length ≤ 18) (hg : Good Y)
 (i : Nat) (x : Lk) (y : Li) (hx : X[i]? = some x) (hy : Y[i]? = some y) (hx0 : x.s = ⟨none, 0, 0⟩) (hy0 : y = li0 y.c) :
 Calls Tryz.prog 48 #[.pointer (some ⟨p, 0, none⟩), .int .i64 (i : Int)] w fun e w' => e = .returned (.tuple #[]) ∧ ∃ x', PB w0 w' p hp m v (X.set i x') (Y.set i (lay (Y.map (·.c)) A i)) := by
 have hil : i < Y.length := (List.getElem?_eq_some_iff.1 hy).1
 obtain ⟨g, cap, cur, rfl, hcur, hsite, hcell⟩ := h.site hx hy
 have hN : (namesY Y).length = Y.length := by simp [namesY]
 have fitn : ∀ s ∈ namesY Y, s.size ≤ 1099511627776 := fun s hs => by
  obtain ⟨y', hy', rfl⟩ := List.mem_map.1 hs
  exact (hg.fit y' hy').name
 have hnm : (namesY Y)[i]? = some y.c.name := by unfold namesY; rw [List.getElem?_map, hy]; rfl
 have hix : ix y.c.name (namesY Y) = some i := H.ix_nodup hnd hnm
 have hanc : anc (namesY Y) A y.c.name = (up A Y.length i).1.map (nameAt (namesY Y)) := by unfold anc; rw [hix]; simp only []; rw [hN]
 have L := h.at' i x y hx hy
 have hname : x.k.name = y.c.name := L.k.name
 obtain ⟨b0, b1, b2⟩ := cells3 h.pb
 have c0 : w.cell? ⟨g, i * 9, none⟩ = some (.string y.c.name) := by
  rw [cell_at hcur]
  have := hcell 0 _ rfl
  rw [hname] at this
  exact this
 have AN := fun w' (f : Fr no w w') => H.ancestors_any w' hp (namesY Y) A ((hH.keep h.fr).keep f) hA (by omega) y.c.name (fitn _ (List.mem_of_getElem? hnm))
 rw [hanc] at AN
 have HAN : Hid (_) := AN
 have KS : Hid (∀ w', Fr no w w' → w'.cell? ⟨p, 0, none⟩ = some (.pointer (some ⟨hp, 0, none⟩)) ∧ w'.cell? ⟨g, i * 9, none⟩ = some (.string y.c.name)) := fun w' f => ⟨f.cell b0 (fun f => f), f.cell c0 (fun f => f)⟩
 have hii : (i : Int) < (Y.length : Int) := by omega
 have HP : Hid (PB w0 w p hp m (.slice (some ⟨g, 0, none⟩) Y.length cap) X Y) := h
 have HE : Hid (_ ∧ _ ∧ _ ∧ _ ∧ _ ∧ _ ∧ _ ∧ _ ∧ _) := ⟨hx, hy, hx0, hy0, hnd, hg, hcur, hsite, hcell⟩
 have HFI : Hid (Fine (namesY Y).length A ∧ (namesY Y).length = Y.length) := ⟨hA, hN⟩
 have HLEN : Hid (Y.length ≤ 18) := hlen
 clear h hH hA hnd hg hx hy hx0 hy0 hcur hsite hcell hN fitn hnm hix hanc L hname AN hlen
 generalize hYl : Y.length = n at *
 go_enter Tryz.func48, Tryz.ntmps48
 go_wp2_with fail
 refine wp_label_one 0 (LayAt w p i g cur x.fm x.mm (namesY Y) (up A n i).1 (Y.map (·.c)) y.c) (fun a' _ => (intOf (a'.tmps.getD 6 undef)).toNat) rfl ?_ ?_
 · intro K h0 hr hn'
   go_wp2_with fail
   go_region_held3 (fun w' => w'.cell? ⟨p, 0, none⟩ = some (.pointer (some ⟨hp, 0, none⟩)) ∧ w'.cell? ⟨g, i * 9, none⟩ = some (.string y.c.name)) (with_reducible (first | exact KS.out _ (Fr.refl _ w).drew | exact KS.out _ g1)) (first | (go_at_call 84; refine (HAN.out _ (Fr.refl no w).drew).mono ?_; rintro e w1 ⟨vw, rfl, ow, nw, f1⟩; have g1 : Fr no w w1 := (Fr.refl no w).drew.new f1 (fun _ _ f => f); obtain ⟨qw, cw, rfl⟩ := ow.form))
   have HO : Hid (H.OwnG H.elS w1 (.slice qw (up A n i).1.length cw) ((up A n i).1.map (nameAt (namesY Y)))) := by
    have := ow
    simp only [List.length_map] at this
    exact this
   clear ow nw
   generalize hWl : (up A n i).1.length = wl at *
   go_wp2_with fail
   go_step3
   rename_i hk
   subst hWl
   have P1 := HP.out.keep g1
   obtain ⟨hx, hy, hx0, hy0, hnd, hg, hcur, hsite, hcell⟩ := HE.out
   have M := mid0 (P1.at' i x y hx hy) hx0 (g1.heap hcur (fun f => f)) hcell
   rw [hy0] at M
   exact hk _ _ (h0 _ _ ⟨w1, qw, cw, (up A n i).1.length, li0 y.c, _, _, _, _, _, _, _, _, _, _, _, _, _, _, _, _, _, _, _, _, _, _, _, _, _, _, _, _, _, _, _, _, _, _, _, _, _, _, _, _, _, _, rfl, rfl, Nat.le_refl _, g1, HO.out, M, by rw [List.drop_length]; rfl, ⟨Nat.zero_le _, ⟨Int.le_refl _, by show (0 : Int) ≤ _; omega⟩, Nat.zero_le _⟩⟩)
 · rintro a' wr ⟨w1, qw, cw, k, yk, u2, u3, u6, u7, u8, u9, u10, u11, u12, u13, u14, u15, u16, u17, u18, u19, u20, u21, u22, u23, u24, u25, u26, u27, u28, u29, u30, u31, u32, u33, u34, u35, u36, u37, u38, u39, u40, u41, u42, u43, u44, u45, rfl, rfl, hk, f1, ow, mid, hyk, hbd⟩ K hj hr hn'
   obtain ⟨hx, hy, hx0, hy0, hnd, hg, hcur, hsite, hcell⟩ := HE.out
   have P1 := HP.out.keep f1
   have ykc : yk.c = y.c := by rw [hyk, layN_cls]; rfl
   have hyl : i < Y.length := (List.getElem?_eq_some_iff.1 hy).1
   have lst := P1.laid hx hy ykc (by rw [hYl]) (f1.heap hcur (fun f => f)) mid
   by_cases hk0 : k = 0
   · subst hk0
     have hfin : lay (Y.map (·.c)) A i = yk := by
      rw [hyk, List.drop_zero]
      unfold lay clsAt
      rw [List.length_map, hYl, List.getD_eq_getElem?_getD, List.getElem?_map, hy]
      rfl
     have HZ : Hid (_ ∧ _) := ⟨lst, hfin⟩
     clear lst hfin mid ow hbd hyk P1 hx hy hx0 hy0 hnd hg hcur hsite hcell
     go_wp2_with fail
     refine hr _ _ ?_
     refine bodyPost_ret (results_none rfl _ _ _) rfl ?_
     obtain ⟨⟨x', hp', -⟩, hfin⟩ := HZ.out
     rw [hfin]
     rw [hYl] at *
     exact ⟨rfl, x', hp'⟩
   · obtain ⟨k, rfl⟩ : ∃ k', k = k' + 1 := ⟨k - 1, by omega⟩
     obtain ⟨j, hj0⟩ : ∃ j, (up A n i).1[k]? = some j := ⟨_, List.getElem?_eq_getElem (by omega)⟩
     have hjn : j < n := by
      have := H.up_lt HFI.out.1 n i (by rw [HFI.out.2]; exact hil) j (List.mem_of_getElem? hj0)
      rw [HFI.out.2] at this
      exact this
     obtain ⟨xj, yj, hxj, hyj, Lj⟩ := P1.get (i := j) (by omega)
     have hnm : (namesY Y)[j]? = some yj.c.name := by unfold namesY; rw [List.getElem?_map, hyj]; rfl
     have hat : nameAt (namesY Y) j = yj.c.name := by unfold nameAt; rw [List.getD_eq_getElem?_getD, hnm]; rfl
     have hix : ix yj.c.name (namesY Y) = some j := H.ix_nodup hnd hnm
     have hgj := hg.fit yj (List.mem_of_getElem? hyj)
     have hfs : yj.c.name.size ≤ 1099511627776 := hgj.name
     obtain ⟨xi, PM, xi1, xi2, xi3⟩ := lst
     have hns : namesY (Y.set i yk) = namesY Y := namesY_set hy ykc
     have hwl : (up A n i).1.length ≤ 18 := Nat.le_trans (H.up_len A n i) HLEN.out
     -- the way's row
     obtain ⟨ad, cap', ew, -, -, -, hway⟩ := ow.sl
     simp only [Value.slice.injEq] at ew
     obtain ⟨rfl, -, -⟩ := ew
     obtain ⟨bw, ow', rfl, hcw⟩ := hway k yj.c.name (by rw [List.getElem?_map, hj0, Option.map_some, hat])
     have twb : ∃ cu, w1.heap[bw]? = some (.cells cu 9 (0, 0)) := by
      rcases ow.2 with ⟨e, _⟩ | ⟨gg, c2, cu, e, _, hgg, _⟩
      · simp at e
      · simp only [Value.slice.injEq, Option.some.injEq, Addr.mk.injEq] at e
        obtain ⟨⟨rfl, _⟩, _⟩ := e
        exact ⟨cu, hgg⟩
     obtain ⟨cub, hcub⟩ := twb
     have hcur1 := f1.heap hcur (fun f => f)
     have L1 := P1.at' i x y hx hy
     obtain ⟨_, q1, _⟩ := L1.f
     obtain ⟨_, q2, _⟩ := L1.m
     obtain ⟨m1, m2, hb1⟩ := map_lt q1
     obtain ⟨m3, m4, hb2⟩ := map_lt q2
     have notT : ∀ (q : Nat) (cu : Array Value) (t : TypeId), w1.heap[q]? = some (.cells cu t (0, 0)) → t ≠ 128 → ¬ Turn g x.fm x.mm q := fun q cu t hq ht hT => by
      rcases hT with rfl | rfl | rfl
      · rw [hcur1] at hq
        simp only [Option.some.injEq, Obj.cells.injEq] at hq
        exact ht hq.2.1.symm
      · rw [hb1] at hq
        simp at hq
      · rw [hb2] at hq
        simp at hq
     have site1 : Site w1 g (i * 9) cur x.fm x.mm := ⟨hcur1, hsite.fits, hsite.fc, hsite.mc, ⟨_, _, hb1⟩, ⟨_, _, hb2⟩, hsite.ne⟩
     have KS : Hid (∀ w', Fr (Turn g x.fm x.mm) w1 w' → w'.cell? ⟨p, 1, none⟩ = some (.map (some m)) ∧ w'.cell? ⟨bw, ow' + k, none⟩ = some (.string yj.c.name) ∧ (Instr.lookup 114 (.map (some m)) (.string yj.c.name) false).run Tryz.prog w' = .ok (.int .i64 (j : Int)) w') := fun w' hf => by
      have hmt : ¬ Turn g x.fm x.mm m := by
       obtain ⟨D, d1, -⟩ := P1.num
       obtain ⟨_, _, hbm⟩ := map_lt d1
       have dmx := P1.dm x (List.mem_of_getElem? hx)
       rintro (e | e | e)
       · rw [e, hcur1] at hbm
         simp at hbm
       · exact dmx.1 e
       · exact dmx.2 e
      obtain ⟨D, d1, d2⟩ := P1.num
      obtain ⟨c, -, hl, hc⟩ := lookI (H.owns_keep d1 hf hmt) (mapG_of d2) yj.c.name hfs
      obtain rfl := hc j hix
      exact ⟨(cells3 (hf.heap P1.pb (notT _ _ _ P1.pb (by decide)))).2.1, hf.cell hcw (notT _ _ _ hcub (by decide)), hl⟩
     have NA := fun w' (hf : Fr no wr w') => named_any w0 w' p hp m _ _ _ (PM.keep hf) yj.c.name hfs j (by rw [hns]; exact hix)
     have TA : Hid (∀ w', Fr no wr w' → Calls Tryz.prog 85 #[.pointer (some ⟨g, i * 9, none⟩), .int .i64 (j : Int), ksV xj.k] w' fun e w'' => e = .returned (.tuple #[]) ∧ MidY w1 w'' g (i * 9) cur x.fm x.mm (takeC yk j yj.c)) := fun w' hf =>
      take_any w1 w' g (i * 9) cur x.fm x.mm site1 yk (mid.keep hf) j xj.k yj.c Lj.k hgj (hg.f yj (List.mem_of_getElem? hyj)) (hg.m yj (List.mem_of_getElem? hyj)) (by have := hbd.1; omega) ⟨hbd.2.1.1, by have := hbd.2.1.2; omega⟩ (by have := hbd.2.2; omega)
     have KX : ∀ xx, (X.set i xi)[j]? = some xx → xx.k = xj.k := fun xx hxx => by
      by_cases hij : i = j
      · subst hij
        rw [List.getElem?_set_self (List.getElem?_eq_some_iff.1 hx).1] at hxx
        simp only [Option.some.injEq] at hxx
        subst hxx
        rw [xi3]
        rw [hx] at hxj
        simp only [Option.some.injEq] at hxj
        rw [hxj]
      · rw [List.getElem?_set_ne hij, hxj] at hxx
        simp only [Option.some.injEq] at hxx
        rw [hxx]
     have HNX : Hid (layN (Y.map (·.c)) (li0 y.c) ((up A n i).1.drop k).reverse = takeC yk j yj.c) := by
      show _ = _
      rw [rev_drop hj0, layN_append, ← hyk]
      unfold layN clsAt
      rw [List.getD_eq_getElem?_getD, List.getElem?_map, hyj]
      rfl
     have HBD : Hid (Bd ((up A n i).1.length - k) (takeC yk j yj.c)) := by
      have := takeC_bd hbd j (hg.f yj (List.mem_of_getElem? hyj)) (hg.m yj (List.mem_of_getElem? hyj))
      have e : (up A n i).1.length - (k + 1) + 1 = (up A n i).1.length - k := by omega
      rw [e] at this
      exact this
     have HNA : Hid (_) := NA
     have HKX : Hid (_) := KX
     have HOW : Hid (_ ∧ _) := ⟨ow, mid⟩
     obtain ⟨s1, s2, s3⟩ := KS.out wr mid.fr
     have hki : (k : Int) < ((up A n i).1.length : Int) := by omega
     have HM : Hid (Fr (Turn g x.fm x.mm) w1 wr) := mid.fr
     clear NA KX ow mid hyk hbd P1 hx hy hx0 hy0 hnd hg hcur hsite hcell hxj hyj Lj hnm hat hix hgj hfs PM xi1 xi2 xi3 hns hway hcw hcub hcur1 L1 q1 q2 hb1 hb2 notT site1 hj0 ykc hjn
     generalize hwll : (up A n i).1.length = wl at *
     unfold ksV at *
     go_wp2_with fail
     go_region_held3 (fun w' => w'.cell? ⟨p, 1, none⟩ = some (.map (some m)) ∧ w'.cell? ⟨bw, ow' + k, none⟩ = some (.string yj.c.name) ∧ (Instr.lookup 114 (.map (some m)) (.string yj.c.name) false).run Tryz.prog w' = .ok (.int .i64 (j : Int)) w') (with_reducible (first | exact KS.out _ HM.out.drew | exact KS.out _ g2 | exact KS.out _ g3)) (first | (go_at_call 86; refine (HNA.out _ (Fr.refl no wr).drew).mono ?_; rintro e w2 ⟨xx, hxx, rfl, f2⟩; have hkx := HKX.out xx hxx; rw [hkx]; clear hkx hxx; have g2' : Fr no wr w2 := (Fr.refl no wr).drew.new f2 (fun _ _ f => f); have g2 : Fr (Turn g x.fm x.mm) w1 w2 := HM.out.trans g2' (fun _ _ e => e) (fun _ _ e => e.elim)) | (go_at_call 85; refine (TA.out _ g2').mono ?_; rintro e w3 ⟨rfl, M3⟩; have g3 := M3.fr))
     all_goals
      go_wp2_with fail
      go_step3
      subst hwll
      refine hj _ _ ⟨w1, _, cw, k, takeC yk j yj.c, _, _, _, _, _, _, _, _, _, _, _, _, _, _, _, _, _, _, _, _, _, _, _, _, _, _, _, _, _, _, _, _, _, _, _, _, _, _, _, _, _, _, rfl, by go_num, by omega, f1, HOW.out.1, M3, HNX.out.symm, HBD.out⟩ ?_
      simp [intOf]
end Go.Proofs.YtalgjpmaafooeaaGreatDoor
/- One class more: the program's call. -/
namespace Go.Proofs.YtalgjpmaafooeaaGreatDoor
open Go.ChangeShapes Go.WideShapes Go.ChangeAt Go.RowKit
open H (ky Owns MapOf ix ky_key keyed)
theorem one_of {i : Nat} {j : Nat} (h : j ∈ [i]) : j = i := by simpa using h
set_option maxRecDepth 100000 in
set_option maxHeartbeats 4000000 in
theorem add_any (w0 w : World) (p hp m : Nat) (v : Value) (X : List Lk) (Y : List Li) (h : PB w0 w p hp m v X Y) (c : Cl) (s : Ks) (hc : ClOwn w s c) (hN : ix c.name (Y.map (·.c.name)) = none) (hs : c.name.size ≤ 1099511627776) (hY : Y.length ≤ 1000) :
 Calls Tryz.prog 46 #[.pointer (some ⟨p, 0, none⟩), ksV s] w fun e w' => e = .returned (.tuple #[]) ∧ ∃ v' x, x.s = ⟨none, 0, 0⟩ ∧ PB w0 w' p hp m v' (X ++ [x]) (Y ++ [li0 c]) := by
 obtain ⟨sn, ss, sp, sf, sm⟩ := s
 have hn := hc.name
 simp only [] at hn
 subst hn
 unfold ksV
 simp only []
 have G0 : Fr no w (w.alloc (.cells #[.string c.name, .string ss, .slice sp.a sp.n sp.c, .slice sf.a sf.n sf.c, .slice sm.a sm.n sm.c] 51)) := (Fr.refl no w).alloc _ _
 have E0 : (w.alloc (.cells #[.string c.name, .string ss, .slice sp.a sp.n sp.c, .slice sf.a sf.n sf.c, .slice sm.a sm.n sm.c] 51)).heap[w.heap.size]? = some (.cells #[.string c.name, .string ss, .slice sp.a sp.n sp.c, .slice sf.a sf.n sf.c, .slice sm.a sm.n sm.c] 51 (0, 0)) := heap_alloc_new w _
 have P0 := (h.keep G0).keep (Fr.refl no _).drew
 obtain ⟨qv, cv, rfl⟩ := h.form
 obtain ⟨b0, b1, b2⟩ := cells3 (h.keep G0).pb
 obtain ⟨a0, -, -, -, -⟩ := box5 E0
 obtain ⟨w2, hrun2, F2, p2, o2, FIN⟩ := P0.added ((hc.keep G0).keep (Fr.refl no _).drew) hN hs hY
 have hAm : w.heap.size ≠ m := fun e => by
  obtain ⟨D, d1, -⟩ := h.num
  have := d1.lt
  omega
 have E2 : w2.heap[w.heap.size]? = some (.cells #[.string c.name, .string ss, .slice sp.a sp.n sp.c, .slice sf.a sf.n sf.c, .slice sm.a sm.n sm.c] 51 (0, 0)) := F2.heap E0 hAm
 have HX : Hid (X.length = Y.length) := h.len
 have H2 : Hid (_ ∧ _ ∧ _ ∧ _) := ⟨p2, E2, o2, FIN⟩
 clear h hc hN P0 G0 F2 E0 p2 E2 o2 FIN
 go_enter Tryz.func46, Tryz.ntmps46
 go_wp2_with fail
 go_region
 go_wp2_with fail
 clear a0 b0 b1 b2 hrun2
 have KS : Hid (∀ w', Fr no w2 w' → w'.heap[p]? = some (.cells #[.pointer (some ⟨hp, 0, none⟩), .map (some m), .slice qv Y.length cv] 120 (0, 0)) ∧ w'.heap[w.heap.size]? = some (.cells #[.string c.name, .string ss, .slice sp.a sp.n sp.c, .slice sf.a sf.n sf.c, .slice sm.a sm.n sm.c] 51 (0, 0))) := fun w' hf => ⟨hf.heap H2.out.1 (fun f => f), hf.heap H2.out.2.1 (fun f => f)⟩
 have HS0 : Hid (_) := KS.out _ (Fr.refl no w2).drew
 have FM : ∀ a w', Fr no a w' → Fr no a (w'.alloc (.map #[] 0)) := fun a w' hf => hf.allocMap
 have F3 : Hid (Fr no w2 (w2.drew.alloc (.map #[] 0))) := FM _ _ (Fr.refl no w2).drew
 have F4 : Hid (Fr no w2 ((w2.drew.alloc (.map #[] 0)).alloc (.map #[] 0))) := FM _ _ F3.out
 have sz : (w2.drew.alloc (.map #[] 0)).heap.size = w2.heap.size + 1 := by simp
 have OW : Hid (∀ b, b = w2.heap.size ∨ b = w2.heap.size + 1 → Owns ((w2.drew.alloc (.map #[] 0)).alloc (.map #[] 0)) b 0 (.map []) ∧ OwnsP ((w2.drew.alloc (.map #[] 0)).alloc (.map #[] 0)) b 0 (.map [])) := by
  rintro b (rfl | rfl)
  · exact ⟨(World.ownsMap_made (H := Unit) w2.drew Tryz.prog 9 (plainElem Tryz.prog 3)).alloc _, (World.ownsMap_made (H := Unit) w2.drew Tryz.prog 9 pairElem).alloc _⟩
  · have k1 := World.ownsMap_made (H := Unit) (w2.drew.alloc (.map #[] 0)) Tryz.prog 9 (plainElem Tryz.prog 3)
    have k2 := World.ownsMap_made (H := Unit) (w2.drew.alloc (.map #[] 0)) Tryz.prog 9 pairElem
    rw [sz] at k1 k2
    exact ⟨k1, k2⟩
 have LAST : Hid (∀ fm mm, (fm = w2.heap.size ∧ mm = w2.heap.size + 1 ∨ fm = w2.heap.size + 1 ∧ mm = w2.heap.size) → Fr no w2 (((w2.drew.alloc (.map #[] 0)).alloc (.map #[] 0)).alloc (.cells #[.string c.name, .string ss, .slice sp.a sp.n sp.c, .slice sf.a sf.n sf.c, .slice sm.a sm.n sm.c, .slice none 0 0, .int .i64 0, .map (some (fm)), .map (some (mm))] 128)) ∧
  ∃ v' w3, (Builtin.append_ #[118, 118] 118 #[.slice qv Y.length cv, .slice (some ⟨w2.heap.size + 1 + 1, 0, none⟩) 1 1]).run Tryz.prog (((w2.drew.alloc (.map #[] 0)).alloc (.map #[] 0)).alloc (.cells #[.string c.name, .string ss, .slice sp.a sp.n sp.c, .slice sf.a sf.n sf.c, .slice sm.a sm.n sm.c, .slice none 0 0, .int .i64 0, .map (some (fm)), .map (some (mm))] 128)) = .ok v' w3 ∧ (w3.heap[p]? = some (.cells #[.pointer (some ⟨hp, 0, none⟩), .map (some m), .slice qv Y.length cv] 120 (0, 0)) ∧ w3.heap[w.heap.size]? = some (.cells #[.string c.name, .string ss, .slice sp.a sp.n sp.c, .slice sf.a sf.n sf.c, .slice sm.a sm.n sm.c] 51 (0, 0))) ∧
  ∃ w4 x, (Instr.storeAt 118 (.pointer (some ⟨p, 2, none⟩)) v').run Tryz.prog w3 = .ok () w4 ∧ x.s = ⟨none, 0, 0⟩ ∧ PB w0 w4 p hp m v' (X ++ [x]) (Y ++ [li0 c])) := by
  intro fm mm hor
  have F5 : Fr no w2 (((w2.drew.alloc (.map #[] 0)).alloc (.map #[] 0)).alloc (.cells #[.string c.name, .string ss, .slice sp.a sp.n sp.c, .slice sf.a sf.n sf.c, .slice sm.a sm.n sm.c, .slice none 0 0, .int .i64 0, .map (some (fm)), .map (some (mm))] 128)) := F4.out.alloc _ _
  have o5 := H2.out.2.2.1.keep F5
  have hx := HX.out
  rw [← hx] at o5
  have sz2 : ((w2.drew.alloc (.map #[] 0)).alloc (.map #[] 0)).heap.size = w2.heap.size + 1 + 1 := by simp
  have src := srcG_one okLk ((w2.drew.alloc (.map #[] 0)).alloc (.map #[] 0)) ⟨⟨c.name, ss, sp, sf, sm⟩, ⟨none, 0, 0⟩, 0, fm, mm⟩
  rw [sz2] at src
  obtain ⟨v', w3, hrun, o3, s3⟩ := run_apdG okLk _ (.slice qv X.length cv) X o5 _ [⟨⟨c.name, ss, sp, sf, sm⟩, ⟨none, 0, 0⟩, 0, fm, mm⟩] src (by simp) (by simp only [List.length_singleton]; omega)
  have hfm : w2.heap.size ≤ fm ∧ w2.heap.size ≤ mm ∧ fm ≠ mm := by rcases hor with ⟨rfl, rfl⟩ | ⟨rfl, rfl⟩ <;> exact ⟨by omega, by omega, by omega⟩
  have e1 := own_alloc_map (OW.out fm (by omega)).1 ((Fr.refl no ((w2.drew.alloc (.map #[] 0)).alloc (.map #[] 0))).alloc #[.string c.name, .string ss, .slice sp.a sp.n sp.c, .slice sf.a sf.n sf.c, .slice sm.a sm.n sm.c, .slice none 0 0, .int .i64 0, .map (some (fm)), .map (some (mm))] 128)
  have e2 := own_alloc_map (OW.out mm (by omega)).2 ((Fr.refl no ((w2.drew.alloc (.map #[] 0)).alloc (.map #[] 0))).alloc #[.string c.name, .string ss, .slice sp.a sp.n sp.c, .slice sf.a sf.n sf.c, .slice sm.a sm.n sm.c, .slice none 0 0, .int .i64 0, .map (some (fm)), .map (some (mm))] 128)
  rw [hx] at hrun s3
  obtain ⟨-, w4, hst, hpb⟩ := H2.out.2.2.2 _ F5 fm mm v' w3 hfm.1 hfm.2.1 hfm.2.2 e1 e2 o3 s3
  refine ⟨F5, v', w3, hrun, ⟨?_, ?_⟩, w4, _, hst, rfl, hpb⟩
  · refine s3.1.heap (F5.heap H2.out.1 (fun f => f)) (fun e => e.elim id (fun e => ?_))
    rw [← hx] at e
    obtain ⟨cu, hcu⟩ := o5.tag e
    rw [F5.heap H2.out.1 (fun f => f)] at hcu
    simp [elLk] at hcu
  · refine s3.1.heap (F5.heap H2.out.2.1 (fun f => f)) (fun e => e.elim id (fun e => ?_))
    rw [← hx] at e
    obtain ⟨cu, hcu⟩ := o5.tag e
    rw [F5.heap H2.out.2.1 (fun f => f)] at hcu
    simp [elLk] at hcu
 clear FM OW hs hY
 have sz2 : ((w2.drew.alloc (.map #[] 0)).alloc (.map #[] 0)).heap.size = w2.heap.size + 1 + 1 := by simp
 refine late_begin (S := fun w' => w'.heap[p]? = some (.cells #[.pointer (some ⟨hp, 0, none⟩), .map (some m), .slice qv Y.length cv] 120 (0, 0)) ∧ w'.heap[w.heap.size]? = some (.cells #[.string c.name, .string ss, .slice sp.a sp.n sp.c, .slice sf.a sf.n sf.c, .slice sm.a sm.n sm.c] 51 (0, 0))) (g := 13) (by kernel_rfl) ?_
 refine late_pure 0 (ptr p 0) rfl (by kernel_rfl) (by kernel_rfl) (by kernel_rfl) (fun _ _ _ h => h) (by decide) (yields rfl (fun _ _ => ev_move 0 _ rfl (by kernel_rfl))) (fun _ => HS0.out) ?_
 refine late_pure 1 (ptr p 0) rfl (by kernel_rfl) (by kernel_rfl) (by kernel_rfl) (fun _ _ _ h => h) (by decide) (yields rfl (fun _ _ => ev_move 0 _ rfl (by kernel_rfl))) (fun _ => HS0.out) ?_
 refine late_pure 2 (ptr p 0) rfl (by kernel_rfl) (by kernel_rfl) (by kernel_rfl) (fun _ _ _ h => h) (by decide) (yields rfl (fun _ _ => ev_nil 16 ⟨p, 0, none⟩ rfl (by kernel_rfl))) (fun _ => HS0.out) ?_
 refine late_pure 3 (ptr p 2) rfl (by kernel_rfl) (by kernel_rfl) (by kernel_rfl) (fun _ _ _ h => h) (by decide) (yields rfl (fun _ _ => ev_field 120 17 2 (ptr p 0) _ rfl (by kernel_rfl) (by kernel_rfl))) (fun _ => HS0.out) ?_
 refine late_take 4 (.slice qv Y.length cv) rfl (by kernel_rfl) (by kernel_rfl) (by kernel_rfl) (fun _ _ _ h => h) (waits_of (by kernel_rfl)) (by decide) (by kernel_rfl) (yields rfl (fun w' hS => ev_load 118 18 (ptr p 2) _ rfl (by kernel_rfl) (by simp [go_sem, (cells3 hS.1).2.2]))) HS0.out ?_
 refine late_take 5 (.agg #[.string c.name, .string ss, .slice sp.a sp.n sp.c, .slice sf.a sf.n sf.c, .slice sm.a sm.n sm.c]) rfl (by kernel_rfl) (by kernel_rfl) (by kernel_rfl) (fun _ _ _ h => h) (waits_of (by kernel_rfl)) (by decide) (by kernel_rfl) (yields rfl (fun w' hS => ev_load 51 3 (ptr w.heap.size 0) _ rfl (by kernel_rfl) (load_row w' _ 51 _ _ hS.2 Tryz.underlying51 rfl (by kernel_rfl)))) HS0.out ?_
 refine late_all [6, 7] (by kernel_rfl) (by simp) (fun j hj => ?_)
 simp only [List.mem_cons, List.not_mem_nil, or_false] at hj
 rcases hj with rfl | rfl
 · refine late_op (v := .map (some w2.heap.size)) (w' := w2.drew.alloc (.map #[] 0)) rfl rfl (by kernel_rfl) ⟨fun _ => KS.out _ F3.out, ?_⟩
   refine late_all [7] (by kernel_rfl) (by simp) (fun j hj => ?_)
   obtain rfl := one_of hj
   refine late_op (v := .map (some (w2.heap.size + 1))) (w' := (w2.drew.alloc (.map #[] 0)).alloc (.map #[] 0)) rfl rfl (by rw [← sz]; kernel_rfl) ⟨fun _ => KS.out _ F4.out, ?_⟩
   refine late_pure 8 (.agg #[.string c.name, .string ss, .slice sp.a sp.n sp.c, .slice sf.a sf.n sf.c, .slice sm.a sm.n sm.c, .slice none 0 0, .int .i64 0, .map (some (w2.heap.size)), .map (some (w2.heap.size + 1))]) rfl (by kernel_rfl) (by kernel_rfl) (by kernel_rfl) (fun _ _ _ h => h) (by decide) (yields rfl (fun _ _ => by kernel_rfl)) (fun _ => KS.out _ F4.out) ?_
   obtain ⟨F5, v', w3, hrun, hS3, w4, x, hst, hx0, hpb⟩ := LAST.out (w2.heap.size) (w2.heap.size + 1) (.inl ⟨rfl, rfl⟩)
   refine late_all [9] (by kernel_rfl) (by simp) (fun j hj => ?_)
   obtain rfl := one_of hj
   refine late_op (v := .slice (some ⟨w2.heap.size + 1 + 1, 0, none⟩) 1 1) (w' := ((w2.drew.alloc (.map #[] 0)).alloc (.map #[] 0)).alloc (.cells #[.string c.name, .string ss, .slice sp.a sp.n sp.c, .slice sf.a sf.n sf.c, .slice sm.a sm.n sm.c, .slice none 0 0, .int .i64 0, .map (some (w2.heap.size)), .map (some (w2.heap.size + 1))] 128)) rfl rfl (by rw [← sz2]; kernel_rfl) ⟨fun _ => KS.out _ F5, ?_⟩
   refine late_all [10] (by kernel_rfl) (by simp) (fun j hj => ?_)
   obtain rfl := one_of hj
   refine late_op rfl rfl (ev_append 118 19 24 _ _ _ _ rfl rfl (by kernel_rfl) (by kernel_rfl) hrun) ⟨fun _ => hS3, ?_⟩
   refine late_pure 11 (ptr p 0) rfl (by kernel_rfl) (by kernel_rfl) (by kernel_rfl) (fun _ _ _ h => h) (by decide) (yields rfl (fun _ _ => ev_nil 15 ⟨p, 0, none⟩ rfl (by kernel_rfl))) (fun _ => hS3) ?_
   refine late_pure 12 (ptr p 2) rfl (by kernel_rfl) (by kernel_rfl) (by kernel_rfl) (fun _ _ _ h => h) (by decide) (yields rfl (fun _ _ => ev_field 120 26 2 (ptr p 0) _ rfl (by kernel_rfl) (by kernel_rfl))) (fun _ => hS3) ?_
   refine late_all [13] (by kernel_rfl) (by simp) (fun j hj => ?_)
   obtain rfl := one_of hj
   refine late_skip rfl rfl (ev_store 118 27 25 _ _ _ rfl (by kernel_rfl) (by kernel_rfl) hst) ⟨(fun h => Bool.noConfusion (show true = false from h)), ?_⟩
   refine late_done (by kernel_rfl) ?_
   have HZ : Hid (PB w0 w4 p hp m v' (X ++ [x]) (Y ++ [li0 c])) := hpb
   clear hpb hst hrun hS3 F5
   go_wp2_with fail
   go_end0
   exact ⟨rfl, v', x, hx0, HZ.out⟩
 · refine late_op (v := .map (some w2.heap.size)) (w' := w2.drew.alloc (.map #[] 0)) rfl rfl (by kernel_rfl) ⟨fun _ => KS.out _ F3.out, ?_⟩
   refine late_all [6] (by kernel_rfl) (by simp) (fun j hj => ?_)
   obtain rfl := one_of hj
   refine late_op (v := .map (some (w2.heap.size + 1))) (w' := (w2.drew.alloc (.map #[] 0)).alloc (.map #[] 0)) rfl rfl (by rw [← sz]; kernel_rfl) ⟨fun _ => KS.out _ F4.out, ?_⟩
   refine late_pure 8 (.agg #[.string c.name, .string ss, .slice sp.a sp.n sp.c, .slice sf.a sf.n sf.c, .slice sm.a sm.n sm.c, .slice none 0 0, .int .i64 0, .map (some (w2.heap.size + 1)), .map (some (w2.heap.size))]) rfl (by kernel_rfl) (by kernel_rfl) (by kernel_rfl) (fun _ _ _ h => h) (by decide) (yields rfl (fun _ _ => by kernel_rfl)) (fun _ => KS.out _ F4.out) ?_
   obtain ⟨F5, v', w3, hrun, hS3, w4, x, hst, hx0, hpb⟩ := LAST.out (w2.heap.size + 1) (w2.heap.size) (.inr ⟨rfl, rfl⟩)
   refine late_all [9] (by kernel_rfl) (by simp) (fun j hj => ?_)
   obtain rfl := one_of hj
   refine late_op (v := .slice (some ⟨w2.heap.size + 1 + 1, 0, none⟩) 1 1) (w' := ((w2.drew.alloc (.map #[] 0)).alloc (.map #[] 0)).alloc (.cells #[.string c.name, .string ss, .slice sp.a sp.n sp.c, .slice sf.a sf.n sf.c, .slice sm.a sm.n sm.c, .slice none 0 0, .int .i64 0, .map (some (w2.heap.size + 1)), .map (some (w2.heap.size))] 128)) rfl rfl (by rw [← sz2]; kernel_rfl) ⟨fun _ => KS.out _ F5, ?_⟩
   refine late_all [10] (by kernel_rfl) (by simp) (fun j hj => ?_)
   obtain rfl := one_of hj
   refine late_op rfl rfl (ev_append 118 19 24 _ _ _ _ rfl rfl (by kernel_rfl) (by kernel_rfl) hrun) ⟨fun _ => hS3, ?_⟩
   refine late_pure 11 (ptr p 0) rfl (by kernel_rfl) (by kernel_rfl) (by kernel_rfl) (fun _ _ _ h => h) (by decide) (yields rfl (fun _ _ => ev_nil 15 ⟨p, 0, none⟩ rfl (by kernel_rfl))) (fun _ => hS3) ?_
   refine late_pure 12 (ptr p 2) rfl (by kernel_rfl) (by kernel_rfl) (by kernel_rfl) (fun _ _ _ h => h) (by decide) (yields rfl (fun _ _ => ev_field 120 26 2 (ptr p 0) _ rfl (by kernel_rfl) (by kernel_rfl))) (fun _ => hS3) ?_
   refine late_all [13] (by kernel_rfl) (by simp) (fun j hj => ?_)
   obtain rfl := one_of hj
   refine late_skip rfl rfl (ev_store 118 27 25 _ _ _ rfl (by kernel_rfl) (by kernel_rfl) hst) ⟨(fun h => Bool.noConfusion (show true = false from h)), ?_⟩
   refine late_done (by kernel_rfl) ?_
   have HZ : Hid (PB w0 w4 p hp m v' (X ++ [x]) (Y ++ [li0 c])) := hpb
   clear hpb hst hrun hS3 F5
   go_wp2_with fail
   go_end0
   exact ⟨rfl, v', x, hx0, HZ.out⟩
end Go.Proofs.YtalgjpmaafooeaaGreatDoor
