/- owned, over and Exit of the document. -/
import Derived.Test.YtkkpimpmhnnbjaaDa
namespace Go.Proofs.Ytkkpimpmhnnbjaa
open Go.ChangeShapes Go.WideShapes Go.ChangeAt Go.RowKit

set_option maxRecDepth 100000 in
theorem dOwned_out {c : Nat} {w : World} {q : Nat} {D : List Dl} (h : DT c w q D) (a t : Int) (hl : D.length ≤ 3000) (hn : fdT (told D) a = none) :
    Calls Try.prog 31 #[.pointer (some ⟨q, 0, none⟩), .int .i64 a, .int .i64 t] w fun e w' => e = .returned (.pointer none) ∧ w' = w := by
  have FD := find_any h a hl
  rw [hn] at FD
  clear h hn
  go_enter Try.func31, Try.ntmps31
  go_wp2_with fail
  refine FD.mono ?_
  rintro _ _ ⟨rfl, rfl⟩
  have e : fdA none = -1 := rfl
  rw [e]
  clear FD
  go_wp2_with fail
  go_ret
  exact ⟨rfl, rfl⟩

set_option maxRecDepth 100000 in
theorem dOwned_not {c : Nat} {w : World} {q : Nat} {D : List Dl} (h : DT c w q D) (a t : Int) (hl : D.length ≤ 3000) {i : Nat} (hn : fdT (told D) a = some i) {d : Dl} (hd : D[i]? = some d) (ht : t < 1 ∨ d.x.owner ≠ t) :
    Calls Try.prog 31 #[.pointer (some ⟨q, 0, none⟩), .int .i64 a, .int .i64 t] w fun e w' => e = .returned (.pointer none) ∧ w' = w := by
  have FD := find_any h a hl
  rw [hn] at FD
  obtain ⟨o, cap, h1, -, -, hg⟩ := h.get
  obtain ⟨b, r, rfl, hx⟩ := hg i d hd
  obtain ⟨-, c1, -⟩ := hx.cells
  have hi := (List.getElem?_eq_some_iff.1 hd).1
  clear h hn hg hx hd
  generalize d.x.owner = ow at *
  generalize D.length = n at *
  have hi0 : ¬ ((i : Int) < 0) := by omega
  have hi1 : (i : Int) < (n : Int) := by omega
  by_cases h1t : t < 1
  · go_enter Try.func31, Try.ntmps31
    go_wp2_with fail
    refine FD.mono ?_
    rintro _ _ ⟨rfl, rfl⟩
    have e : fdA (some i) = (i : Int) := rfl
    rw [e]
    clear FD
    go_wp2_with fail
    go_ret
    exact ⟨rfl, rfl⟩
  · have hne : (ow != t) = true := by simp; omega
    have hne' : (ow == t) = false := by simp; omega
    go_enter Try.func31, Try.ntmps31
    go_wp2_with fail
    refine FD.mono ?_
    rintro _ _ ⟨rfl, rfl⟩
    have e : fdA (some i) = (i : Int) := rfl
    rw [e]
    clear FD
    go_wp2_with fail
    go_ret
    exact ⟨rfl, rfl⟩

set_option maxRecDepth 100000 in
theorem dOwned_yes {c : Nat} {w : World} {q : Nat} {D : List Dl} (h : DT c w q D) (a t : Int) (hl : D.length ≤ 3000) {i : Nat} (hn : fdT (told D) a = some i) {d : Dl} (hd : D[i]? = some d) (ht : 1 ≤ t) (ho : d.x.owner = t) :
    Calls Try.prog 31 #[.pointer (some ⟨q, 0, none⟩), .int .i64 a, .int .i64 t] w fun e w' => ∃ b r, e = .returned (.pointer (some ⟨b, r, none⟩)) ∧ Dx c w q D i d b r ∧ w' = w := by
  have FD := find_any h a hl
  rw [hn] at FD
  obtain ⟨o, cap, h1, -, -, hg⟩ := h.get
  obtain ⟨b, r, rfl, hx⟩ := hg i d hd
  obtain ⟨-, c1, -⟩ := hx.cells
  have hi := (List.getElem?_eq_some_iff.1 hd).1
  have HX : Hid (Dx c w q D i d b (r + i * 6)) := hx
  clear h hn hg hx hd
  generalize d.x.owner = ow at *
  generalize hD : D.length = n at *
  have hi0 : ¬ ((i : Int) < 0) := by omega
  have hi1 : (i : Int) < (n : Int) := by omega
  have h1t : ¬ (t < 1) := by omega
  subst ho
  have hne : (ow != ow) = false := by simp
  go_enter Try.func31, Try.ntmps31
  go_wp2_with fail
  refine FD.mono ?_
  rintro _ _ ⟨rfl, rfl⟩
  have e : fdA (some i) = (i : Int) := rfl
  rw [e]
  clear FD
  go_wp2_with fail
  go_ret
  exact ⟨_, _, rfl, HX.out, rfl⟩

theorem OwnG.notd {c : Nat} {w : World} {v : Value} {l : List (Int × Int)} (h : OwnG elD w v l) {k : Nat} (hk : v.ownBlock = some k) : ¬ Td c w k := by
  rintro ⟨-, cur2, t2, hc2, h2⟩
  obtain ⟨cur, hc⟩ := h.tag hk
  rw [hc] at hc2
  rcases h2 with rfl | rfl <;> simp [elD] at hc2

/-- Whose lock it is: its place, itself. -/
def dOwn (T : List (Int × Lk)) (a t : Int) : Option (Nat × Lk) :=
  match fdT T a with
  | none => none
  | some i =>
    match T[i]? with
    | none => none
    | some x => if t < 1 ∨ x.2.owner ≠ t then none else some (i, x.2)

theorem dOwn_some {T : List (Int × Lk)} {a t : Int} {i : Nat} {x : Lk} (h : dOwn T a t = some (i, x)) : fdT T a = some i ∧ T[i]? = some (a, x) ∧ 1 ≤ t ∧ x.owner = t := by
  unfold dOwn at h
  cases hf : fdT T a with
  | none => rw [hf] at h; simp at h
  | some k =>
    obtain ⟨y, hy, -⟩ := fdT_at hf
    rw [hf] at h
    simp only [hy] at h
    split at h
    · simp at h
    · rename_i hc
      simp only [Option.some.injEq, Prod.mk.injEq] at h
      obtain ⟨rfl, rfl⟩ := h
      exact ⟨rfl, hy, by omega, by omega⟩

theorem dOwned_none {c : Nat} {w : World} {q : Nat} {D : List Dl} (h : DT c w q D) (a t : Int) (hl : D.length ≤ 3000) (hn : dOwn (told D) a t = none) :
    Calls Try.prog 31 #[.pointer (some ⟨q, 0, none⟩), .int .i64 a, .int .i64 t] w fun e w' => e = .returned (.pointer none) ∧ w' = w := by
  cases hf : fdT (told D) a with
  | none => exact dOwned_out h a t hl hf
  | some i =>
    obtain ⟨x, hx, -⟩ := fdT_at hf
    obtain ⟨d, hd, -, hdx⟩ := told_at hx
    unfold dOwn at hn
    rw [hf] at hn
    simp only [hx] at hn
    split at hn
    · rename_i hc
      exact dOwned_not h a t hl hf hd (by rw [hdx]; exact hc)
    · simp at hn

theorem dOwned_some {c : Nat} {w : World} {q : Nat} {D : List Dl} (h : DT c w q D) (a t : Int) (hl : D.length ≤ 3000) {i : Nat} {x : Lk} (hn : dOwn (told D) a t = some (i, x)) :
    Calls Try.prog 31 #[.pointer (some ⟨q, 0, none⟩), .int .i64 a, .int .i64 t] w fun e w' => ∃ d b r, e = .returned (.pointer (some ⟨b, r, none⟩)) ∧ Dx c w q D i d b r ∧ d.at_ = a ∧ d.x = x ∧ w' = w := by
  obtain ⟨hf, hx, ht, ho⟩ := dOwn_some hn
  obtain ⟨d, hd, h1, h2⟩ := told_at hx
  refine (dOwned_yes h a t hl hf hd ht (by rw [h2]; exact ho)).mono ?_
  rintro e w' ⟨b, r, he, hdx, hw⟩
  exact ⟨d, b, r, he, hdx, h1, h2, hw⟩

/-- A lock handed over. -/
def overL (x : Lk) : Lk :=
  match x.entry with
  | [] => { x with owner := 0, count := 0 }
  | e :: r => { x with owner := e.1, count := e.2, entry := r }

theorem elem70 : Try.prog.elem 70 = 75 := by kernel_rfl

set_option maxRecDepth 100000 in
theorem dOver_nil {c : Nat} {w : World} {q : Nat} {D : List Dl} {i : Nat} {d : Dl} {b r : Nat} (h : Dx c w q D i d b r) (hn : d.x.entry = []) :
    Calls Try.prog 32 #[.pointer (some ⟨b, r, none⟩)] w fun e w' => e = .returned (.int .i64 (handR d.x)) ∧ (∃ d', Dx c w' q (D.set i d') i d' b r ∧ d'.at_ = d.at_ ∧ d'.x = overL d.x) ∧ Fr (Td c w) w w' := by
  obtain ⟨r1, r2⟩ := h.rows
  obtain ⟨-, c1, c2, -⟩ := h.cells
  have z1 := h.thaw (r + 1)
  have z2 := h.thaw (r + 2)
  obtain ⟨A1, f1⟩ := h.set 1 (.int .i64 0) { d with x := { d.x with owner := 0 } } (by decide) rfl r1 r2
  obtain ⟨s1, s2⟩ := A1.rows
  obtain ⟨A2, f2⟩ := A1.set 2 (.int .i64 0) { d with x := { d.x with owner := 0, count := 0 } } (by decide) rfl s1 s2
  rw [List.set_set] at A2
  have HT : Hid (Dx c ((w.setCell ⟨b, r + 1, none⟩ (.int .i64 0)).setCell ⟨b, r + 2, none⟩ (.int .i64 0)) q (D.set i { d with x := { d.x with owner := 0, count := 0 } }) i { d with x := { d.x with owner := 0, count := 0 } } b r ∧ Fr (Td c w) w ((w.setCell ⟨b, r + 1, none⟩ (.int .i64 0)).setCell ⟨b, r + 2, none⟩ (.int .i64 0))) := ⟨A2, f1.td f2⟩
  have HR : Hid (handR d.x = 0 ∧ overL d.x = { d.x with owner := 0, count := 0 }) := by
    unfold Hid handR overL
    rw [hn]
    refine ⟨rfl, ?_⟩
    simp only [hn]
  clear h A1 A2 f1 f2 s1 s2
  go_enter Try.func32, Try.ntmps32
  go_upto_region 2 with (fail)
  clear c1 c2 z1 z2
  revert HT
  generalize ((w.setCell ⟨b, r + 1, none⟩ (.int .i64 0)).setCell ⟨b, r + 2, none⟩ (.int .i64 0)) = W
  intro HT
  obtain ⟨-, c1, -, -, c4, -⟩ := HT.out.1.cells
  obtain ⟨o, cap, he⟩ := r1.form
  rw [hn] at he
  simp only [] at c1 c4
  rw [he] at c4
  simp only [List.length_nil] at c4
  clear r1 r2 he hn
  go_wp2_with fail
  go_ret
  exact ⟨by rw [HR.out.1]; rfl, ⟨_, HT.out.1, rfl, HR.out.2.symm⟩, HT.out.2⟩

set_option maxRecDepth 100000 in
theorem dOver_cons {c : Nat} {w : World} {q : Nat} {D : List Dl} {i : Nat} {d : Dl} {b r : Nat} (h : Dx c w q D i d b r) {e1 e2 : Int} {l : List (Int × Int)} (hn : d.x.entry = (e1, e2) :: l) :
    Calls Try.prog 32 #[.pointer (some ⟨b, r, none⟩)] w fun e w' => e = .returned (.int .i64 (handR d.x)) ∧ (∃ d', Dx c w' q (D.set i d') i d' b r ∧ d'.at_ = d.at_ ∧ d'.x = overL d.x) ∧ Fr (Td c w) w w' := by
  obtain ⟨r1, r2⟩ := h.rows
  obtain ⟨-, c1, c2, -⟩ := h.cells
  have z1 := h.thaw (r + 1)
  have z2 := h.thaw (r + 2)
  obtain ⟨A1, f1⟩ := h.set 1 (.int .i64 0) { d with x := { d.x with owner := 0 } } (by decide) rfl r1 r2
  obtain ⟨s1, s2⟩ := A1.rows
  obtain ⟨A2, f2⟩ := A1.set 2 (.int .i64 0) { d with x := { d.x with owner := 0, count := 0 } } (by decide) rfl s1 s2
  rw [List.set_set] at A2
  have HT : Hid (Dx c ((w.setCell ⟨b, r + 1, none⟩ (.int .i64 0)).setCell ⟨b, r + 2, none⟩ (.int .i64 0)) q (D.set i { d with x := { d.x with owner := 0, count := 0 } }) i { d with x := { d.x with owner := 0, count := 0 } } b r ∧ Fr (Td c w) w ((w.setCell ⟨b, r + 1, none⟩ (.int .i64 0)).setCell ⟨b, r + 2, none⟩ (.int .i64 0))) := ⟨A2, f1.td f2⟩
  have HR : Hid (handR d.x = e1 ∧ overL d.x = { d.x with owner := e1, count := e2, entry := l }) := by
    unfold Hid handR overL
    rw [hn]
    exact ⟨rfl, rfl⟩
  clear h A1 A2 f1 f2 s1 s2 r1 r2
  go_enter Try.func32, Try.ntmps32
  go_upto_region 2 with (fail)
  clear c1 c2 z1 z2
  revert HT
  generalize ((w.setCell ⟨b, r + 1, none⟩ (.int .i64 0)).setCell ⟨b, r + 2, none⟩ (.int .i64 0)) = W
  intro HT
  obtain ⟨-, c1, c2, -, c4, -⟩ := HT.out.1.cells
  have z1 := HT.out.1.thaw (r + 1)
  have z2 := HT.out.1.thaw (r + 2)
  obtain ⟨r1, r2⟩ := HT.out.1.rows
  simp only [] at c1 c2 c4 r1 r2
  rw [hn] at r1
  obtain ⟨g, o, cap, hv⟩ : ∃ g o cap, d.e = .slice (some ⟨g, o, none⟩) ((e1, e2) :: l).length cap := by
    rcases r1 with ⟨_, hl⟩ | ⟨g, o, cap, cur, hv, _⟩
    · simp at hl
    · exact ⟨g, o, cap, hv⟩
  rw [hv] at c4 r1
  have k0 := r1.cells 0 (.int .i64 e1) rfl
  have k1 := r1.cells 1 (.int .i64 e2) rfl
  rw [Nat.add_zero] at k0
  obtain ⟨sv, hs1, -, -, hso0, hsb⟩ := cut_high elD_ok elem70 r1 1 (by simp)
  have hso : OwnG elD W sv l := hso0
  have hgb : g ≠ b := fun e => by
    obtain ⟨cur, hc⟩ := r1.tag (k := g) rfl
    obtain ⟨cap', o', -, -, hK, -⟩ := HT.out.1.own
    obtain ⟨cur2, hc2⟩ := hK.tag (k := b) rfl
    rw [e, hc2] at hc
    simp [elK, elD] at hc
  have hs2 : ∀ w', (Instr.slice 70 (.slice (some ⟨g, o, none⟩) ((e1, e2) :: l).length cap) (some (.int .i64 1)) none none).run Try.prog w' = .ok sv w' := hs1
  have hpos : 0 < ((e1, e2) :: l).length := by simp
  have HSO : Hid (OwnG elD W sv l ∧ OwnG elD W d.v d.x.wait ∧ OwnG elD W d.e d.x.entry) := ⟨hso, r2, by rw [hv, hn]; exact r1⟩
  generalize ((e1, e2) :: l).length = ln at *
  have hlt : (0 : Int) < (ln : Int) := by omega
  have hde : Hid (d.e = .slice (some ⟨g, o, none⟩) ln cap) := hv
  clear r1 r2 hso0 hso hsb hv hs1 hn
  go_upto_region 3 with (fail)
  go_region
  obtain ⟨so, sc, hsv⟩ := HSO.out.1.form
  subst hsv
  have T2 : Hid (Dx c ((W.setCell ⟨b, r + 1, none⟩ (.int .i64 e1)).setCell ⟨b, r + 2, none⟩ (.int .i64 e2)).drew q (D.set i { d with x := { d.x with owner := e1, count := e2 } }) i { d with x := { d.x with owner := e1, count := e2 } } b r ∧ Fr (Td c w) w ((W.setCell ⟨b, r + 1, none⟩ (.int .i64 e1)).setCell ⟨b, r + 2, none⟩ (.int .i64 e2)).drew ∧ OwnG elD ((W.setCell ⟨b, r + 1, none⟩ (.int .i64 e1)).setCell ⟨b, r + 2, none⟩ (.int .i64 e2)).drew (.slice so l.length sc) l) := by
    obtain ⟨A1, f1⟩ := HT.out.1.set 1 (.int .i64 e1) { d with x := { d.x with owner := e1, count := 0 } } (by decide) rfl HSO.out.2.2 HSO.out.2.1
    obtain ⟨s1, s2⟩ := A1.rows
    obtain ⟨A2, f2⟩ := A1.set 2 (.int .i64 e2) { d with x := { d.x with owner := e1, count := e2 } } (by decide) rfl s1 s2
    rw [List.set_set, List.set_set] at A2
    refine ⟨A2.keep ((Fr.refl no _).drew), (HT.out.2.td (f1.td f2)).drew, ?_⟩
    exact HSO.out.1.kept (f1.td f2).drew (fun k hk hT => HSO.out.1.notd hk hT)
  revert T2
  generalize ((W.setCell ⟨b, r + 1, none⟩ (.int .i64 e1)).setCell ⟨b, r + 2, none⟩ (.int .i64 e2)).drew = V
  intro T2
  clear c1 c2 z1 z2 c4 k0 k1 HSO HT
  obtain ⟨-, -, -, -, c4, -⟩ := T2.out.1.cells
  have z4 := T2.out.1.thaw (r + 4)
  simp only [] at c4
  rw [hde.out] at c4
  have T3 : Hid (Dx c (V.setCell ⟨b, r + 4, none⟩ (.slice so l.length sc)) q (D.set i { d with x := { d.x with owner := e1, count := e2, entry := l }, e := .slice so l.length sc, he := rfl }) i { d with x := { d.x with owner := e1, count := e2, entry := l }, e := .slice so l.length sc, he := rfl } b r ∧ Fr (Td c w) w (V.setCell ⟨b, r + 4, none⟩ (.slice so l.length sc))) := by
    obtain ⟨A1, f1⟩ := T2.out.1.set 4 (.slice so l.length sc) { d with x := { d.x with owner := e1, count := e2, entry := l }, e := .slice so l.length sc, he := rfl } (by decide) rfl T2.out.2.2 T2.out.1.rows.2
    rw [List.set_set] at A1
    exact ⟨A1, T2.out.2.1.td f1⟩
  clear T2
  generalize l.length = nl at *
  go_upto_region 5 with (fail)
  revert T3
  generalize (V.setCell ⟨b, r + 4, none⟩ (.slice so nl sc)) = V2
  intro T3
  clear c4 z4
  obtain ⟨-, c1, -⟩ := T3.out.1.cells
  simp only [] at c1
  go_wp2_with fail
  go_ret
  exact ⟨by rw [HR.out.1]; rfl, ⟨_, T3.out.1, rfl, HR.out.2.symm⟩, T3.out.2⟩

theorem dOver_any {c : Nat} {w : World} {q : Nat} {D : List Dl} {i : Nat} {d : Dl} {b r : Nat} (h : Dx c w q D i d b r) :
    Calls Try.prog 32 #[.pointer (some ⟨b, r, none⟩)] w fun e w' => e = .returned (.int .i64 (handR d.x)) ∧ (∃ d', Dx c w' q (D.set i d') i d' b r ∧ d'.at_ = d.at_ ∧ d'.x = overL d.x) ∧ Fr (Td c w) w w' := by
  cases hn : d.x.entry with
  | nil => exact dOver_nil h hn
  | cons e l => exact dOver_cons (e1 := e.1) (e2 := e.2) h hn

/-- The document's table, by what is told of it. -/
def DB (c : Nat) (w : World) (q : Nat) (T : List (Int × Lk)) : Prop := ∃ D, DT c w q D ∧ told D = T

theorem Dx.db {c : Nat} {w : World} {q : Nat} {D : List Dl} {i : Nat} {d : Dl} {b r : Nat} (h : Dx c w q (D.set i d) i d b r) : DB c w q ((told D).set i (d.at_, d.x)) := ⟨_, h.dt, told_set D i d⟩

theorem eq73n (w : World) : (binOp .eql 73 (.pointer none) (.pointer none)).run Try.prog w = .ok (.bool true) w := by kernel_rfl
theorem eq73p (w : World) (b r : Nat) : (binOp .eql 73 (.pointer (some ⟨b, r, none⟩)) (.pointer none)).run Try.prog w = .ok (.bool false) w := by kernel_rfl

def dExitP (a t : Int) (T : List (Int × Lk)) : Int × Int × List (Int × Lk) :=
  match dOwn T a t with
  | none => (0, 130, T)
  | some (i, x) => if x.count - 1 > 0 then (0, 0, T.set i (a, { x with count := x.count - 1 })) else (handR x, 0, T.set i (a, overL x))

set_option maxRecDepth 100000 in
theorem dExit_any {c : Nat} {w : World} {q : Nat} {T : List (Int × Lk)} (h : DB c w q T) (a t : Int) (hl : T.length ≤ 3000) (hc : ∀ (i : Nat) (x : Lk), T[i]? = some (a, x) → In (x.count - 1)) :
    Calls Try.prog 13 #[.pointer (some ⟨q, 0, none⟩), .int .i64 a, .int .i64 t] w fun e w' => e = .returned (.tuple #[.int .i64 (dExitP a t T).1, .int .i64 (dExitP a t T).2.1]) ∧ DB c w' q (dExitP a t T).2.2 ∧ Fr (Td c w) w w' := by
  have e1 := eq73n
  have e2 := eq73p
  obtain ⟨D, hD, rfl⟩ := h
  rw [told_length] at hl
  unfold dExitP
  cases ho : dOwn (told D) a t with
  | none =>
    have OW := dOwned_none hD a t hl ho
    have HZ : Hid (DB c w q (told D) ∧ Fr (Td c w) w w) := ⟨⟨D, hD, rfl⟩, Fr.refl _ _⟩
    clear hD hc ho
    go_enter Try.func13, Try.ntmps13
    go_wp2_with fail
    refine OW.mono ?_
    rintro _ _ ⟨rfl, rfl⟩
    clear OW
    go_wp2_with fail
    go_ret2
    exact ⟨rfl, HZ.out⟩
  | some p =>
    obtain ⟨i, x⟩ := p
    simp only []
    have OW := dOwned_some hD a t hl ho
    have hin := hc i x (dOwn_some ho).2.1
    clear hD hc ho
    unfold In at hin
    go_enter Try.func13, Try.ntmps13
    go_wp2_with fail
    refine OW.mono ?_
    rintro _ w ⟨d, b, r, rfl, hdx, rfl, rfl, rfl⟩
    clear OW
    obtain ⟨-, -, c2, -⟩ := hdx.cells
    have z2 := hdx.thaw (r + 2)
    have hin' : In (d.x.count - 1) := hin
    obtain ⟨A1, f1⟩ := hdx.set 2 (.int .i64 (d.x.count - 1)) { d with x := { d.x with count := d.x.count - 1 } } (by decide) rfl hdx.rows.1 hdx.rows.2
    have HA : Hid (Dx c (w.setCell ⟨b, r + 2, none⟩ (.int .i64 (d.x.count - 1))) q (D.set i { d with x := { d.x with count := d.x.count - 1 } }) i { d with x := { d.x with count := d.x.count - 1 } } b r ∧ Fr (Td c w) w (w.setCell ⟨b, r + 2, none⟩ (.int .i64 (d.x.count - 1)))) := ⟨A1, f1⟩
    clear A1 f1 hdx
    have HL : Hid (told (D.set i { d with x := { d.x with count := d.x.count - 1 } }) = (told D).set i (d.at_, { d.x with count := d.x.count - 1 })) := told_set D i _
    have HV : Hid (handR { d.x with count := d.x.count - 1 } = handR d.x ∧ overL { d.x with count := d.x.count - 1 } = overL d.x) := by
      unfold Hid handR overL
      constructor <;> rfl
    have hwr : IntKind.i64.wrap (d.x.count - 1) = d.x.count - 1 := by
      rw [IntKind.wrap_i64]
      omega
    go_upto_region 5 with (fail)
    revert HA
    generalize (w.setCell ⟨b, r + 2, none⟩ (.int .i64 (d.x.count - 1))) = W
    intro HA
    clear c2 z2
    obtain ⟨-, -, c2, -⟩ := HA.out.1.cells
    simp only [] at c2
    by_cases h1 : d.x.count - 1 > 0
    · have HZ : Hid (DB c W q ((told D).set i (d.at_, { d.x with count := d.x.count - 1 })) ∧ Fr (Td c w) w W) := ⟨HA.out.1.db, HA.out.2⟩
      clear HA HL HV
      go_wp2_with fail
      go_ret2
      exact ⟨rfl, HZ.out⟩
    · have OV := dOver_any HA.out.1
      have HF : Hid (Fr (Td c w) w W) := HA.out.2
      clear HA
      go_wp2_with fail
      refine OV.mono ?_
      rintro _ w2 ⟨rfl, ⟨d', x1, x2, x3⟩, f2⟩
      have HZ : Hid (DB c w2 q ((told D).set i (d.at_, overL d.x)) ∧ Fr (Td c w) w w2) := by
        refine ⟨?_, HF.out.td f2⟩
        have := x1.db
        rw [x2, x3, HL.out, List.set_set] at this
        rw [← HV.out.2]
        exact this
      have HV1 : Hid (handR { d.x with count := d.x.count - 1 } = handR d.x) := HV.out.1
      clear OV x1 x2 x3 f2 HF HL HV
      go_wp2_with fail
      go_ret2
      exact ⟨rfl, HZ.out⟩
end Go.Proofs.Ytkkpimpmhnnbjaa
