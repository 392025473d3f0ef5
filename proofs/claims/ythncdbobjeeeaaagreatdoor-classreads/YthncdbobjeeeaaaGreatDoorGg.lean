/- What a name is, and what a type is: the program's answers. -/
import Derived.Test.YthncdbobjeeeaaaGreatDoorGf
import Derived.Test.YthncdbobjeeeaaaGreatDoorGe
namespace Go.Proofs.YthncdbobjeeeaaaGreatDoor
open Go.ChangeShapes Go.WideShapes Go.ChangeAt Go.RowKit

def letter (c : Nat) : Bool := decide (97 ≤ c ∧ c ≤ 122 ∨ 65 ≤ c ∧ c ≤ 90 ∨ c = 95 ∨ c = 36)
def digit (c : Nat) : Bool := decide (48 ≤ c ∧ c ≤ 57)

/-- Whether these bytes are a name. -/
def nameL (l : List Nat) : Bool := decide (l ≠ []) && decide (l.length ≤ 20) && !digit (l.getD 0 0) && l.all fun c => letter c || digit c
def isName (s : ByteArray) : Bool := nameL (nl s)

theorem isDigit_any (w : World) (c : Nat) : Calls Tryz.prog 58 #[.int .u8 (c : Int)] w fun e w' => e = .returned (.bool (digit c)) ∧ w' = w := by
  by_cases h1 : 48 ≤ c
  · by_cases h2 : c ≤ 57
    · rw [show digit c = true by simp [digit]; omega]
      go_enter Tryz.func58, Tryz.ntmps58
      go_wp2_with fail
      go_ret
      exact ⟨by simp; omega, rfl⟩
    · rw [show digit c = false by simp [digit]; omega]
      go_enter Tryz.func58, Tryz.ntmps58
      go_wp2_with fail
      go_ret
      exact ⟨by simp; omega, rfl⟩
  · rw [show digit c = false by simp [digit]; omega]
    go_enter Tryz.func58, Tryz.ntmps58
    go_wp2_with fail
    go_ret
    exact ⟨rfl, rfl⟩

theorem isLetter_any (w : World) (c : Nat) : Calls Tryz.prog 59 #[.int .u8 (c : Int)] w fun e w' => e = .returned (.bool (letter c)) ∧ w' = w := by
  rcases (show (97 ≤ c ∧ c ≤ 122) ∨ (65 ≤ c ∧ c ≤ 90) ∨ c = 95 ∨ c = 36 ∨ (c < 65 ∧ c ≠ 36) ∨ (90 < c ∧ c < 97 ∧ c ≠ 95) ∨ 122 < c by omega) with ⟨h1, h2⟩ | ⟨h1, h2⟩ | h1 | h1 | ⟨h1, h2⟩ | ⟨h1, h2, h3⟩ | h1
  · rw [show letter c = true by simp [letter]; omega]
    go_enter Tryz.func59, Tryz.ntmps59
    go_wp2_with fail
    go_ret
    exact ⟨rfl, rfl⟩
  · rw [show letter c = true by simp [letter]; omega]
    have h3 : ¬ 97 ≤ c := by omega
    go_enter Tryz.func59, Tryz.ntmps59
    go_wp2_with fail
    go_ret
    exact ⟨rfl, rfl⟩
  · subst h1
    go_enter Tryz.func59, Tryz.ntmps59
    go_wp2_with fail
    go_ret
    exact ⟨rfl, rfl⟩
  · subst h1
    go_enter Tryz.func59, Tryz.ntmps59
    go_wp2_with fail
    go_ret
    exact ⟨rfl, rfl⟩
  · rw [show letter c = false by simp [letter]; omega]
    have h3 : ¬ 97 ≤ c := by omega
    have h4 : ¬ 65 ≤ c := by omega
    have h5 : ((c : Int) == 95) = false := by simp; omega
    have h6 : ((c : Int) == 36) = false := by simp; omega
    go_enter Tryz.func59, Tryz.ntmps59
    go_wp2_with fail
    go_ret
    exact ⟨rfl, rfl⟩
  · rw [show letter c = false by simp [letter]; omega]
    have h3 : ¬ 97 ≤ c := by omega
    have h4 : ¬ c ≤ 90 := by omega
    have h5 : ((c : Int) == 95) = false := by simp; omega
    have h6 : ((c : Int) == 36) = false := by simp; omega
    go_enter Tryz.func59, Tryz.ntmps59
    go_wp2_with fail
    go_ret
    exact ⟨by simp; omega, rfl⟩
  · rw [show letter c = false by simp [letter]; omega]
    have h3 : ¬ c ≤ 122 := by omega
    have h4 : ¬ c ≤ 90 := by omega
    have h5 : ((c : Int) == 95) = false := by simp; omega
    have h6 : ((c : Int) == 36) = false := by simp; omega
    go_enter Tryz.func59, Tryz.ntmps59
    go_wp2_with fail
    go_ret
    exact ⟨by simp; omega, rfl⟩

def NameAt (w0 : World) (s : ByteArray) (a : Act) (w : World) : Prop :=
  ∃ (k : Nat) (u1 u2 u3 u4 u5 u6 u7 u8 u9 u10 u11 u12 u13 u14 u15 u16 u17 u18 u19 u20 u21 u22 u23 u24 u25 u26 u27 u28 u29 u30 u31 u32 u33 : Value), a = { tmps := #[.string s, u1, u2, u3, u4, u5, u6, u7, u8, u9, u10, u11, u12, u13, u14, u15, u16, u17, u18, u19, u20, u21, u22, u23, u24, u25, u26, u27, u28, u29, u30, u31, u32, u33], defers := [] } ∧ u3 = .int .i64 (k : Int) ∧ w = w0 ∧ k ≤ s.size ∧ s.size ≠ 0 ∧ s.size ≤ 20 ∧ digit ((nl s).getD 0 0) = false ∧ ((nl s).take k).all (fun c => letter c || digit c) = true

theorem nameL_len (l : List Nat) (h : 20 < l.length) : nameL l = false := by
  unfold nameL
  rw [decide_eq_false (show ¬ l.length ≤ 20 by omega)]
  simp
theorem nameL_dig (l : List Nat) (h : digit (l.getD 0 0) = true) : nameL l = false := by
  unfold nameL
  rw [h]
  simp
theorem nameL_bad (l : List Nat) (k c : Nat) (hk : l[k]? = some c) (h : (letter c || digit c) = false) : nameL l = false := by
  unfold nameL
  have : (l.all fun c => letter c || digit c) = false := by
    rw [List.all_eq_false]
    exact ⟨c, List.mem_of_getElem? hk, by simpa using h⟩
  rw [this]
  simp
theorem nameL_ok (l : List Nat) (h0 : l ≠ []) (h1 : l.length ≤ 20) (h2 : digit (l.getD 0 0) = false) (h3 : (l.all fun c => letter c || digit c) = true) : nameL l = true := by
  unfold nameL
  rw [h2, h3, decide_eq_true h0, decide_eq_true h1]
  rfl

theorem toList_nil (s : ByteArray) : s.toList = [] ↔ s.size = 0 := by
  rw [ByteArray.toList_eq]
  show s.data.toList = [] ↔ s.data.size = 0
  rw [← Array.length_toList]
  exact List.length_eq_zero_iff.symm

set_option maxRecDepth 100000 in
theorem isName_any (w : World) (s : ByteArray) (hs : s.size ≤ 1099511627776) : Calls Tryz.prog 15 #[.string s] w fun e w' => e = .returned (.bool (isName s)) ∧ w' = w := by
  go_enter Tryz.func15, Tryz.ntmps15
  go_wp2_with fail
  refine wp_label_one 0 (NameAt w s) (fun a' _ => s.size - (intOf (a'.tmps.getD 3 undef)).toNat) rfl ?_ ?_
  · intro K h0 hr hn'
    by_cases he : s.toList = []
    · have HN : Hid (isName s = false) := by
        show _ = _
        have : nl s = [] := List.eq_nil_of_length_eq_zero (by rw [nl_length]; exact (toList_nil s).1 he)
        unfold isName
        rw [this]
        rfl
      go_wp2_with fail
      refine hr _ _ ?_
      go_ret
      rw [HN.out]
      exact ⟨rfl, rfl⟩
    · have hne : s.toList.isEmpty = false := by simpa using he
      have h0s : s.size ≠ 0 := fun h => he ((toList_nil s).2 h)
      by_cases hbig : 20 < s.size
      · have HN : Hid (isName s = false) := nameL_len _ (by rw [nl_length]; exact hbig)
        go_wp2_with fail
        refine hr _ _ ?_
        go_ret
        rw [HN.out]
        exact ⟨rfl, rfl⟩
      · have hc : (nl s)[0]? = some s[0].toNat := nl_get s 0 (by omega)
        have HD : Hid ((nl s).getD 0 0 = s[0].toNat) := by show _ = _; rw [List.getD_eq_getElem?_getD, hc]; rfl
        have D := isDigit_any w s[0].toNat
        have hb20 : decide (20 < (s.size : Int)) = false := by simp; omega
        clear hc
        by_cases hdig : digit s[0].toNat = true
        · have HN : Hid (isName s = false) := nameL_dig _ (by rw [HD.out]; exact hdig)
          rw [hdig] at D
          go_wp2_with fail
          refine D.mono ?_
          rintro e w1 ⟨rfl, rfl⟩
          go_wp2_with fail
          refine hr _ _ ?_
          go_ret
          rw [HN.out]
          exact ⟨rfl, rfl⟩
        · have hdig' : digit s[0].toNat = false := by simpa using hdig
          rw [hdig'] at D
          go_wp2_with fail
          refine D.mono ?_
          rintro e w1 ⟨rfl, rfl⟩
          go_wp2_with fail
          go_step3
          rename_i hk
          exact hk _ _ (h0 _ _ ⟨0, _, _, _, _, _, _, _, _, _, _, _, _, _, _, _, _, _, _, _, _, _, _, _, _, _, _, _, _, _, _, _, _, _, rfl, rfl, rfl, Nat.zero_le _, h0s, by omega, by rw [HD.out]; exact hdig', rfl⟩)
  · rintro a' w' ⟨k, u1, u2, u3, u4, u5, u6, u7, u8, u9, u10, u11, u12, u13, u14, u15, u16, u17, u18, u19, u20, u21, u22, u23, u24, u25, u26, u27, u28, u29, u30, u31, u32, u33, rfl, rfl, rfl, hk, h0s, h20, hd, hall⟩ K hj hr hn'
    have HA : Hid (((nl s).take k).all (fun c => letter c || digit c) = true) := hall
    have HD : Hid (digit ((nl s).getD 0 0) = false) := hd
    clear hall hd
    by_cases hend : k = s.size
    · subst hend
      have HN : Hid (isName s = true) := by
        refine nameL_ok _ (fun h => h0s ?_) (by rw [nl_length]; exact h20) HD.out ?_
        · rw [← nl_length, h]; rfl
        · have := HA.out
          rwa [← nl_length, List.take_length] at this
      go_wp2_with fail
      refine hr _ _ ?_
      go_ret
      rw [HN.out]
      exact ⟨rfl, rfl⟩
    · have hlt : k < s.size := by omega
      have hne : ((k : Int) == (s.size : Int)) = false := by simp; omega
      have hc : (nl s)[k]? = some s[k].toNat := nl_get s k hlt
      have HC : Hid ((nl s)[k]? = some s[k].toNat) := hc
      have L := isLetter_any w' s[k].toNat
      have D := isDigit_any w' s[k].toNat
      clear hc
      have STEP : Hid ((letter s[k].toNat || digit s[k].toNat) = true → ((nl s).take (k + 1)).all (fun c => letter c || digit c) = true) := by
        intro h
        rw [take_next _ k _ HC.out, List.all_append, HA.out]
        simpa using h
      have BAD : Hid ((letter s[k].toNat || digit s[k].toNat) = false → isName s = false) := fun h => nameL_bad _ k _ HC.out h
      generalize hcv : s[k].toNat = c at *
      by_cases hl : letter c = true
      · rw [hl] at L
        go_wp2_with fail
        refine L.mono ?_
        rintro e w1 ⟨rfl, rfl⟩
        go_wp2_with fail
        go_step3
        refine hj _ _ ⟨k + 1, _, _, _, _, _, _, _, _, _, _, _, _, _, _, _, _, _, _, _, _, _, _, _, _, _, _, _, _, _, _, _, _, _, rfl, by go_num, rfl, by omega, h0s, h20, HD.out, STEP.out (by rw [hl]; rfl)⟩ ?_
        simp [intOf]
        omega
      · have hl' : letter c = false := by simpa using hl
        rw [hl'] at L
        by_cases hdg : digit c = true
        · rw [hdg] at D
          go_wp2_with fail
          refine L.mono ?_
          rintro e w1 ⟨rfl, rfl⟩
          go_wp2_with fail
          refine D.mono ?_
          rintro e w1 ⟨rfl, rfl⟩
          go_wp2_with fail
          go_step3
          refine hj _ _ ⟨k + 1, _, _, _, _, _, _, _, _, _, _, _, _, _, _, _, _, _, _, _, _, _, _, _, _, _, _, _, _, _, _, _, _, _, rfl, by go_num, rfl, by omega, h0s, h20, HD.out, STEP.out (by rw [hl', hdg]; rfl)⟩ ?_
          simp [intOf]
          omega
        · have hdg' : digit c = false := by simpa using hdg
          rw [hdg'] at D
          have HN : Hid (isName s = false) := BAD.out (by rw [hl', hdg']; rfl)
          go_wp2_with fail
          refine L.mono ?_
          rintro e w1 ⟨rfl, rfl⟩
          go_wp2_with fail
          refine D.mono ?_
          rintro e w1 ⟨rfl, rfl⟩
          go_wp2_with fail
          refine hr _ _ ?_
          go_ret
          rw [HN.out]
          exact ⟨rfl, rfl⟩
end Go.Proofs.YthncdbobjeeeaaaGreatDoor

/- Slices of structs, of whatever kind: those that are read, and those that the calls themselves have made; one law on append. -/
namespace Go.Proofs.YthncdbobjeeeaaaGreatDoor
open Go.ChangeShapes Go.WideShapes Go.ChangeAt Go.RowKit

/-- A kind of elements: the slice's type, the element's, how many cells it has, its zero value, its bytes, its cells. -/
structure El (α : Type) where
  t : TypeId
  e : TypeId
  n : Nat
  z : Value
  b : Nat
  f : α → List Value

/-- No byte. -/
def nob (u : Value) : Prop := ∀ c, u ≠ .int .u8 c

structure El.Ok {α : Type} (K : El α) : Prop where
  und : Tryz.prog.underlying K.t = some (.slice K.e)
  info : (Tryz.prog.info? K.e).map (fun i => (i.zero, i.size, i.bytes)) = some (some K.z, K.n, K.b)
  len : ∀ x, (K.f x).length = K.n
  one : ∀ x, ∀ u ∈ K.f x, u.oneCell' = true
  nb : ∀ x, ∀ u ∈ K.f x, nob u
  zlen : K.z.cells.size = K.n
  znb : ∀ u ∈ K.z.cells.toList, nob u
  bs : K.b ≤ 128
  pos : 0 < K.n

variable {α : Type} {K : El α}

/-- The cells of these elements. -/
def cg (K : El α) (l : List α) : List Value := l.flatMap K.f

theorem cg_append (l m : List α) : cg K l ++ cg K m = cg K (l ++ m) := by unfold cg; simp

theorem cg_length (hK : K.Ok) (l : List α) : (cg K l).length = l.length * K.n := by
  induction l with
  | nil => simp [cg]
  | cons x l ih =>
    have : cg K (x :: l) = K.f x ++ cg K l := rfl
    rw [this, List.length_append, ih, hK.len, List.length_cons, Nat.add_mul, Nat.one_mul, Nat.add_comm]

theorem cg_get (hK : K.Ok) (l : List α) (i : Nat) (x : α) (h : l[i]? = some x) (j : Nat) (u : Value) (hj : (K.f x)[j]? = some u) : (cg K l)[i * K.n + j]? = some u := by
  induction l generalizing i with
  | nil => simp at h
  | cons y l ih =>
    have e : cg K (y :: l) = K.f y ++ cg K l := rfl
    have hjn : j < K.n := by
      rw [← hK.len x]
      exact (List.getElem?_eq_some_iff.1 hj).1
    rw [e]
    cases i with
    | zero =>
      simp at h
      subst h
      rw [Nat.zero_mul, Nat.zero_add, List.getElem?_append_left (by rw [hK.len]; exact hjn)]
      exact hj
    | succ i =>
      have := ih i (by simpa using h)
      rw [List.getElem?_append_right (by rw [hK.len, Nat.add_mul]; omega), hK.len]
      rw [show (i + 1) * K.n + j - K.n = i * K.n + j by rw [Nat.add_mul]; omega]
      exact this

theorem cg_one (hK : K.Ok) (l : List α) : ∀ u ∈ cg K l, u.oneCell' = true := by
  intro u hu
  obtain ⟨x, _, h⟩ := List.mem_flatMap.1 hu
  exact hK.one x u h

theorem cg_nob (hK : K.Ok) (l : List α) : ∀ u ∈ cg K l, nob u := by
  intro u hu
  obtain ⟨x, _, h⟩ := List.mem_flatMap.1 hu
  exact hK.nb x u h

/-- v is nil, or begins at the head of a row of such elements that isn't frozen; they are l; no byte lies there. -/
def OwnG (K : El α) (w : World) (v : Value) (l : List α) : Prop :=
  w.ownsRow 0 K.e K.n v l.length (cg K l) ∧ ∀ (k : Nat) (cur : Array Value) (t : TypeId) (fz : Nat × Nat), v.ownBlock = some k → w.heap[k]? = some (.cells cur t fz) → ∀ u ∈ cur.toList, nob u

theorem OwnG.nil (K : El α) (w : World) : OwnG K w (.slice none 0 0) [] := ⟨World.ownsRow_nil _ _ _ _, fun k _ _ _ hk => by simp [Value.ownBlock] at hk⟩

theorem OwnG.lt {w : World} {v : Value} {l : List α} (h : OwnG K w v l) {k : Nat} (hk : v.ownBlock = some k) : k < w.heap.size := (World.ownsRow.lt h.1 k hk).2

theorem OwnG.kept {S : Nat → Prop} {w w' : World} {v : Value} {l : List α} (h : OwnG K w v l) (hf : Fr S w w') (hS : ∀ k, v.ownBlock = some k → ¬ S k) : OwnG K w' v l := by
  refine ⟨⟨h.1.1, ?_⟩, fun k cur t fz hk hc => h.2 k cur t fz hk ((hf.block k (h.lt hk) (hS k hk)).symm.trans hc)⟩
  rcases h.1.2 with hn | ⟨g, cap, cur, rfl, hb, hgg, rest⟩
  · exact .inl hn
  · exact .inr ⟨g, cap, cur, rfl, hb, hf.heap hgg (hS g rfl), rest⟩

theorem OwnG.form {w : World} {v : Value} {l : List α} (h : OwnG K w v l) : ∃ o cap, v = .slice o l.length cap := by
  rcases h.1.2 with ⟨rfl, h0⟩ | ⟨g, cap, cur, rfl, _⟩
  · exact ⟨_, _, by rw [h0]⟩
  · exact ⟨_, _, rfl⟩

theorem cell_mem {w : World} {k : Addr} {u : Value} (hk : w.cell? k = some u) : ∃ cur t fz, w.heap[k.block]? = some (.cells cur t fz) ∧ u ∈ cur.toList := by
  obtain ⟨kb, ko, ke⟩ := k
  unfold World.cell? at hk
  simp only [] at hk
  cases hg : w.heap[kb]? with
  | none => rw [hg] at hk; simp at hk
  | some o =>
    rw [hg] at hk
    cases o with
    | cells cur t fz =>
      refine ⟨cur, t, fz, rfl, ?_⟩
      cases ke with
      | none => simp at hk; exact Array.mem_toList_iff.2 (Array.mem_of_getElem? hk)
      | some _ => simp at hk
    | _ => simp at hk

theorem OwnG.apart {w : World} {v : Value} {l : List α} (h : OwnG K w v l) (k : Addr) (c : Int) (hk : w.cell? k = some (.int .u8 c)) : v.ownBlock ≠ some k.block := by
  intro e
  obtain ⟨cur, t, fz, hg, hm⟩ := cell_mem hk
  exact h.2 k.block cur t fz e hg _ hm c rfl

/-- The block of such a row is of that kind. -/
theorem OwnG.tag {w : World} {v : Value} {l : List α} (h : OwnG K w v l) {k : Nat} (hk : v.ownBlock = some k) : ∃ cur, w.heap[k]? = some (.cells cur K.e (0, 0)) := by
  rcases h.1.2 with ⟨rfl, _⟩ | ⟨g, cap, cur, rfl, hb, hgg, _⟩
  · simp [Value.ownBlock] at hk
  · simp [Value.ownBlock] at hk
    subst hk
    exact ⟨cur, hgg⟩

theorem OwnI.tag {w : World} {v : Value} {l : List (Int × Int)} (h : OwnI w v l) {k : Nat} (hk : v.ownBlock = some k) : ∃ cur, w.heap[k]? = some (.cells cur 57 (0, 0)) := by
  rcases h.1.2 with ⟨rfl, _⟩ | ⟨g, cap, cur, rfl, hb, hgg, _⟩
  · simp [Value.ownBlock] at hk
  · simp [Value.ownBlock] at hk
    subst hk
    exact ⟨cur, hgg⟩

theorem at_nob {cs : Array Value} (h0 : 0 < cs.size) (h : ∀ u ∈ cs.toList, nob u) (i : Nat) : nob cs[i % cs.size]! := by
  have hlt : i % cs.size < cs.size := Nat.mod_lt _ h0
  rw [getElem!_pos cs _ hlt]
  exact h _ (Array.mem_toList_iff.2 (Array.getElem_mem hlt))

theorem zero_nob (hK : K.Ok) (n : Nat) : ∀ u ∈ (Builtin.zeroCells K.z.cells n).toList, nob u := by
  intro u hu
  unfold Builtin.zeroCells at hu
  simp only [Array.toList_map, List.mem_map] at hu
  obtain ⟨i, _, rfl⟩ := hu
  exact at_nob (by rw [hK.zlen]; exact hK.pos) hK.znb i

theorem made_nob (hK : K.Ok) (n : Nat) : ∀ u ∈ (madeCells K.z.cells n).toList, nob u := by
  intro u hu
  unfold madeCells at hu
  simp only [Array.toList_map, List.mem_map] at hu
  obtain ⟨i, _, rfl⟩ := hu
  exact at_nob (by rw [hK.zlen]; exact hK.pos) hK.znb i

theorem ownG_made (hK : K.Ok) (w : World) (n : Nat) (h : n ≤ maxLen) : OwnG K (w.alloc (.cells (madeCells K.z.cells (n * K.n)) K.e)) (.slice (some ⟨w.heap.size, 0, none⟩) 0 n) [] := by
  refine ⟨World.ownsRow_made w _ n (Nat.zero_le _) h (size_madeCells _ _), fun k cur t fz hk hc => ?_⟩
  simp only [Value.ownBlock, Option.some.injEq] at hk
  subst hk
  rw [heap_alloc_new] at hc
  simp only [Option.some.injEq, Obj.cells.injEq] at hc
  obtain ⟨rfl, _, _⟩ := hc
  exact made_nob hK _

theorem run_makeG (hK : K.Ok) (w : World) (n : Nat) (h : n ≤ 1000) :
    (Instr.makeSlice K.t (.int .i64 0) (.int .i64 (n : Int))).run Tryz.prog w = .ok (.slice (some ⟨w.heap.size, 0, none⟩) 0 n) (w.alloc (.cells (madeCells K.z.cells (n * K.n)) K.e)) := by
  obtain ⟨i0, hi, hz0, hz1, hz2⟩ := info_parts hK.info
  have hb := hK.bs
  have hbb : (K.b : Int) * (n : Int) ≤ 128 * 1000 := Int.mul_le_mul (by omega) (by omega) (by omega) (by omega)
  have hl := hK.zlen
  have := _root_.Go.run_make w K.t K.e i0 K.z hK.und hi hz0 .i64 .i64 0 (n : Int) (by omega) (by omega) (by rw [hz2]; omega) (by omega)
  rw [hz1] at this
  simpa using this

theorem run_apdG (hK : K.Ok) (w : World) (v : Value) (l : List α) (hown : OwnG K w v l) (x : Value) (m : List α) (hs : Src Tryz.prog K.n K.t x m.length (cg K m) w)
    (hm0 : m ≠ []) (hb : l.length + m.length ≤ 1000000) :
    ∃ v' w', (Builtin.append_ #[K.t, K.t] K.t #[v, x]).run Tryz.prog w = .ok v' w' ∧ OwnG K w' v' (l ++ m) ∧ Sp no v w v' w' := by
  obtain ⟨i0, hi, hz0, hz1, hz2⟩ := info_parts hK.info
  have ht := hK.und
  have hlen : (cg K (l ++ m)).length = (l ++ m).length * K.n := cg_length hK _
  have hbs := hK.bs
  have hbb : (l.length + m.length) * K.b ≤ 1000000 * 128 := Nat.mul_le_mul hb hbs
  have grown : ∀ (b : Option Addr) (sCap : Nat), v = .slice b l.length sCap → sCap < l.length + m.length →
      (Builtin.firstCells i0.size l.length (.slice b l.length sCap)).run Tryz.prog w.drew = .ok (cg K l).toArray w.drew →
      ∃ v' w', (Builtin.append_ #[K.t, K.t] K.t #[v, x]).run Tryz.prog w = .ok v' w' ∧ OwnG K w' v' (l ++ m) ∧ Sp no v w v' w' := by
    intro b sCap hv hlt hold
    subst hv
    have hr := run_append_grow_src (P := Tryz.prog) w K.t K.t K.t K.e i0 K.z ht hi hz0 b l.length sCap (cg K l) hold x m.length (cg K m) (by rw [hz1]; exact hs) hlt (by omega)
      (by rw [hz2]; exact growslice_fits (by omega) (by omega))
    have hge := grownCap_ge w (l.length + m.length) sCap K.e
    have hcm : grownCap w (l.length + m.length) sCap K.e ≤ maxLen := grownCap_le_maxLen w _ sCap K.e (by unfold maxLen; omega)
    refine ⟨_, _, hr, ⟨⟨hlen, .inr ⟨w.heap.size, grownCap w (l.length + m.length) sCap K.e, _, ?_, Nat.zero_le _, heap_alloc_new w.drew _, ?_, hcm, ?_, ?_⟩⟩, ?_⟩, ?_⟩
    · simp
    · simpa using hge
    · simp only [Array.size_append, List.size_toArray, size_zeroCells, List.length_append, cg_length hK]
      rw [hK.zlen]
      obtain ⟨d, hd⟩ : ∃ d, grownCap w (l.length + m.length) sCap K.e = (l.length + m.length) + d := ⟨_, (Nat.add_sub_of_le hge).symm⟩
      rw [hd, Nat.add_sub_cancel_left, Nat.add_mul, Nat.add_mul]
    · rw [cg_append, Array.toList_append]
      simp only []
      rw [List.take_append_of_le_length (by rw [cg_length hK]; omega)]
      exact List.take_of_length_le (by rw [cg_length hK]; omega)
    · intro k cur t fz hk hc
      simp only [Value.ownBlock, Option.some.injEq] at hk
      subst hk
      have hn := heap_alloc_new w.drew (.cells ((cg K l ++ cg K m).toArray ++ Builtin.zeroCells K.z.cells (grownCap w (l.length + m.length) sCap K.e - (l.length + m.length))) K.e)
      rw [show w.drew.heap.size = w.heap.size from rfl] at hn
      rw [hn] at hc
      simp only [Option.some.injEq, Obj.cells.injEq] at hc
      obtain ⟨rfl, _, _⟩ := hc
      intro u hu
      rw [Array.toList_append, List.mem_append, cg_append] at hu
      rcases hu with hu | hu
      · exact cg_nob hK _ u hu
      · exact zero_nob hK _ u hu
    · exact ⟨(Fr.refl _ w).drew.alloc _ _, fun k hk e => by simp [Value.ownBlock] at e; omega⟩
  rcases hown.1.2 with ⟨hv, hl0⟩ | ⟨g, cap, cur, hv, hbg, hg, hnc, hcm, hcs, htake⟩
  · have hl : l = [] := List.eq_nil_of_length_eq_zero hl0
    have hm : 0 < m.length := List.length_pos_iff.2 hm0
    refine grown none 0 (by rw [hv, hl0]) (by omega) ?_
    subst hl
    simpa [cg] using run_firstCells_none (P := Tryz.prog) w.drew i0.size 0 0 0
  · by_cases hroom : l.length + m.length ≤ cap
    · have hint := hown.2 g cur K.e (0, 0) (by rw [hv]; rfl) hg
      subst hv
      have hfit : l.length * K.n + (cg K m).length ≤ cur.size := by
        rw [cg_length hK, ← Nat.add_mul, hcs]
        exact Nat.mul_le_mul_right _ hroom
      have hst := run_storeCells_at Tryz.prog g (l.length * i0.size) K.e (cg K m) 0 cur w hg (by rw [hz1]; omega) (cg_one hK m)
      simp only [Nat.add_zero] at hst
      refine ⟨.slice (some ⟨g, 0, none⟩) (l.length + m.length) cap, w.setRow g (cur.toList.take (l.length * i0.size) ++ cg K m ++ cur.toList.drop (l.length * i0.size + (cg K m).length)).toArray, ?_, ⟨?_, ?_⟩, ?_⟩
      · rcases hs.kind with ⟨e', hk⟩ | hk <;> simp [Builtin.append_, run_underlying ht, sizeOf, typeInfo, hi, hs.len, hroom, hz1, hs.cells, Addr.add_lit] <;> (rw [hz1] at hst; simp at hst; simp [hst])
      · refine ⟨hlen, .inr ⟨g, cap, _, by simp, hbg, setRow_heap w g cur _ K.e _ hg, by simpa using hroom, hcm, ?_, ?_⟩⟩
        · simp only [List.size_toArray, List.length_append, List.length_take, List.length_drop, Array.length_toList, hz1]
          omega
        · rw [hz1, htake, cg_append]
          exact List.take_left' (by rw [cg_length hK])
      · intro k cur' t fz hk hc
        simp only [Value.ownBlock, Option.some.injEq] at hk
        subst hk
        rw [setRow_heap w g cur _ K.e _ hg] at hc
        simp only [Option.some.injEq, Obj.cells.injEq] at hc
        obtain ⟨rfl, _, _⟩ := hc
        intro u hu
        simp only [List.mem_append] at hu
        rcases hu with (hu | hu) | hu
        · exact hint u (List.mem_of_mem_take hu)
        · exact cg_nob hK _ u hu
        · exact hint u (List.mem_of_mem_drop hu)
      · exact ⟨⟨rfl, rfl, by rw [setRow_size]; exact Nat.le_refl _, fun k hk hs => setRow_other w g k _ (fun e => hs (.inr (by simp [Value.ownBlock, e]))), fun a _ => frozen_setRow w g _ a⟩, fun k _ e => by simpa [Value.ownBlock] using e⟩
    · refine grown (some ⟨g, 0, none⟩) cap hv (by omega) ?_
      rw [hz1]
      refine run_firstCells_some (P := Tryz.prog) w.drew K.n l.length ⟨g, 0, none⟩ l.length cap (cg K l) (cg_length hK l) ?_
      intro j u hj
      simpa using World.ownsRow.cells hown.1 (g := g) (by rw [hv]; rfl) j u hj

theorem wpList_apdG (hK : K.Ok) (w : World) {ops : Array Oper} {rest : List Oper} {o : Oper} {a : Act} {Q : Exit → Act → World → Prop}
    (hg : o.guard = none) (ht : o.type = K.t) (s x : Operand) (hop : o.op = Op.call { callee := Callee.builtin Builtin.append, args := #[s, x], argTypes := #[K.t, K.t] })
    (v : Value) (l : List α) (hs : a.eval s = v) (hown : OwnG K w v l) (xv : Value) (hx : a.eval x = xv) (m : List α) (hsrc : Src Tryz.prog K.n K.t xv m.length (cg K m) w)
    (hm0 : m ≠ []) (hb : l.length + m.length ≤ 1000000)
    (hK' : ∀ v' w', OwnG K w' v' (l ++ m) → Sp no v w v' w' → wpList Tryz.prog ops Q rest (a.put o.dst v') w') :
    wpList Tryz.prog ops Q (o :: rest) a w := by
  refine wpList_plain hg fun K2 hK2 => ?_
  obtain ⟨v', w', hrun, r1, r2⟩ := run_apdG hK w v l hown xv m hsrc hm0 hb
  unfold Oper.wp
  simp [execOp, hop, ht, resolve, invoke, builtin, hs, hx, hrun, Result.andThen]
  exact hK2 _ _ (hK' v' w' r1 r2)

theorem srcG_one (hK : K.Ok) (w : World) (x : α) : Src Tryz.prog K.n K.t (.slice (some ⟨w.heap.size, 0, none⟩) 1 1) ([x] : List α).length (cg K [x]) (w.alloc (.cells (K.f x).toArray K.e)) :=
  Src.ofSlice _ hK.und _ _ _ _ (by simp [cg, hK.len]) (fun j u hj => by
    have hj' : (K.f x)[j]? = some u := by simpa [cg] using hj
    have hb : (w.alloc (.cells (K.f x).toArray K.e)).heap[w.heap.size]? = some (.cells (K.f x).toArray K.e (0, 0)) := heap_alloc_new w _
    rw [Addr.add_lit]
    unfold World.cell?
    simp only [hb]
    simpa using hj') (cg_one hK _)

/-- v is a slice whose elements are l. -/
def SlG (K : El α) (w : World) (v : Value) (l : List α) : Prop :=
  ∃ ad cap, v = .slice ad l.length cap ∧ l.length ≤ cap ∧ cap ≤ maxLen ∧ ∀ (i : Nat) (x : α), l[i]? = some x → ∃ b off, ad = some ⟨b, off, none⟩ ∧
    ∀ (j : Nat) (u : Value), (K.f x)[j]? = some u → w.cell? ⟨b, off + i * K.n + j, none⟩ = some u

theorem SlG.kept {w w' : World} {v : Value} {l : List α} (h : SlG K w v l) (hf : Fr no w w') : SlG K w' v l := by
  obtain ⟨ad, cap, rfl, h1, h2, h3⟩ := h
  refine ⟨ad, cap, rfl, h1, h2, fun i x hx => ?_⟩
  obtain ⟨b, off, rfl, hc⟩ := h3 i x hx
  exact ⟨b, off, rfl, fun j u hj => hf.cell (hc j u hj) (fun f => f)⟩

theorem OwnG.sl (hK : K.Ok) {w : World} {v : Value} {l : List α} (h : OwnG K w v l) : SlG K w v l := by
  have h' := h.1
  rcases h.1.2 with ⟨rfl, h0⟩ | ⟨g, cap, cur, rfl, hb, hgg, hn, hm, hs, ht⟩
  · have : l = [] := List.eq_nil_of_length_eq_zero h0
    subst this
    exact ⟨none, 0, rfl, Nat.zero_le _, Nat.zero_le _, fun i x hx => by simp at hx⟩
  · refine ⟨_, cap, rfl, hn, hm, fun i x hx => ⟨g, 0, rfl, fun j u hj => ?_⟩⟩
    have := World.ownsRow.cells h' (g := g) rfl (i * K.n + j) _ (cg_get hK l i x hx j u hj)
    rw [Addr.add_lit] at this
    rw [Nat.zero_add]
    simpa using this

theorem SlG.take {w : World} {ad : Option Addr} {n cap k : Nat} {l : List α} (h : SlG K w (.slice ad n cap) l) (hk : k ≤ l.length) : SlG K w (.slice ad k cap) (l.take k) := by
  obtain ⟨ad', cap', e, h1, h2, h3⟩ := h
  simp only [Value.slice.injEq] at e
  obtain ⟨rfl, rfl, rfl⟩ := e
  have hl : (l.take k).length = k := by rw [List.length_take]; omega
  refine ⟨ad, cap, by rw [hl], by omega, h2, fun i x hx => h3 i x ?_⟩
  rw [List.getElem?_take] at hx
  split at hx
  · exact hx
  · simp at hx
end Go.Proofs.YthncdbobjeeeaaaGreatDoor

/- Classes as data: what they have, what is wrong with one first, and how they lie in memory. -/
namespace Go.Proofs.YthncdbobjeeeaaaGreatDoor
open Go.ChangeShapes Go.WideShapes Go.ChangeAt Go.RowKit

/-- A type. -/
structure Ty where
  k : Int
  c : ByteArray
/-- A constant. -/
structure Cs where
  k : Int
  n : Int
  re : Nat
  im : Nat
  c : ByteArray
  m : ByteArray
/-- A field. -/
structure Fd where
  name : ByteArray
  ty : Ty
  vol : Bool
/-- A handler. -/
structure Hd where
  fr : Int
  to : Int
  tg : Int
  cl : Int
  dp : Int
/-- A method. -/
structure Mt where
  name : ByteArray
  params : List Ty
  ret : Ty
  lo : Int
  st : Int
  code : List (Int × Int)
  hands : List Hd
/-- A class. -/
structure Cl where
  name : ByteArray
  super : ByteArray
  pool : List Cs
  fields : List Fd
  methods : List Mt
/-- A slice. -/
structure Sv where
  a : Option Addr
  n : Nat
  c : Nat
/-- A method whose lists are slices. -/
structure Ms where
  name : ByteArray
  p : Sv
  ret : Ty
  lo : Int
  st : Int
  c : Sv
  h : Sv

def e0 : ByteArray := ⟨#[]⟩

/-- Whether that is a type. -/
def isType (t : Ty) (void : Bool) : Bool :=
  if t.k = 4 then isName t.c else if t.k = 1 ∨ t.k = 2 ∨ t.k = 3 then decide (t.c = e0) else if t.k = 0 then void && decide (t.c = e0) else false

/-- What is wrong with a constant. -/
def ckCs (x : Cs) : Nat :=
  if x.k = 1 then (if x.re = 0 ∧ x.im = 0 ∧ x.c = e0 ∧ x.m = e0 then 0 else 51)
  else if x.k = 2 then (if x.n = 0 ∧ x.c = e0 ∧ x.m = e0 then 0 else 51)
  else if x.k = 3 then (if x.n = 0 ∧ x.re = 0 ∧ x.im = 0 ∧ x.m = e0 then (if isName x.c = true then 0 else 50) else 51)
  else if x.k = 4 ∨ x.k = 5 then (if x.n = 0 ∧ x.re = 0 ∧ x.im = 0 then (if isName x.c = true ∧ isName x.m = true then 0 else 50) else 51)
  else 51

/-- The first error of a list, each asked with those ahead of it. -/
def firstE {α : Type} (ask : α → List α → Nat) (ahead : List α) : List α → Nat
  | [] => 0
  | x :: r => if ask x ahead ≠ 0 then ask x ahead else firstE ask (ahead ++ [x]) r
def eachE {α : Type} (most : Nat) (ask : α → List α → Nat) (l : List α) : Nat := if most < l.length then 32 else firstE ask [] l

/-- What is wrong with a field, behind these. -/
def ckFd (x : Fd) (ahead : List Fd) : Nat :=
  if isName x.name = true ∧ isType x.ty false = true then (if ahead.any (fun y => decide (y.name = x.name)) = true then 53 else 0) else 50
def ckTy (t : Ty) (_ : List Ty) : Nat := if isType t false = true then 0 else 50
/-- What is wrong with a method's face, behind these. -/
def ckFace (m : Mt) (ahead : List Mt) : Nat :=
  if isName m.name = true then
    (if eachE 6 ckTy m.params ≠ 0 then eachE 6 ckTy m.params
     else if isType m.ret true = true then (if ahead.any (fun y => decide (y.name = m.name)) = true then 53 else 0) else 50)
  else 50

/-- The kind of constant that an op asks for. -/
def asked (op : Int) : Int :=
  if op = 1 then 1 else if op = 2 then 2 else if op = 25 ∨ op = 36 ∨ op = 37 then 3 else if op = 26 ∨ op = 27 then 4 else 5
/-- Whether the constant of that number is of that kind. -/
def isCst (pool : List Cs) (a k : Int) : Bool := decide (0 ≤ a) && (match pool[a.toNat]? with | some x => decide (x.k = k) | none => false)
/-- What is wrong with an instruction. -/
def ckIns (pool : List Cs) (lo : Int) (n : Nat) (x : Int × Int) : Nat :=
  if isb x.1 x.2 = true then
    (if od x.1 = 1 then (if lo ≤ x.2 then 52 else 0)
     else if od x.1 = 2 then (if isCst pool x.2 (asked x.1) = true then 0 else 51)
     else if od x.1 = 3 then (if (n : Int) ≤ x.2 then 52 else 0) else 0)
  else 40
/-- What is wrong with a handler. -/
def ckHd (pool : List Cs) (n : Nat) (h : Hd) : Nat :=
  if 0 ≤ h.fr ∧ h.fr < h.to ∧ h.to ≤ (n : Int) ∧ 0 ≤ h.tg ∧ h.tg < (n : Int) then
    (if h.cl = -1 ∨ isCst pool h.cl 3 = true then (if 0 ≤ h.dp ∧ h.dp ≤ 6 then 0 else 32) else 51)
  else 52
/-- What is wrong with a method's body. -/
def ckBody (pool : List Cs) (m : Mt) : Nat :=
  if 1 + (m.params.length : Int) ≤ m.lo ∧ m.lo ≤ 32 ∧ 0 ≤ m.st ∧ m.st ≤ 64 then
    (if m.code.length = 0 then 32
     else if eachE 200 (fun x _ => ckIns pool m.lo m.code.length x) m.code ≠ 0 then eachE 200 (fun x _ => ckIns pool m.lo m.code.length x) m.code
     else if has (m.code.getD (m.code.length - 1) (0, 0)).1 1 = true then eachE 16 (fun h _ => ckHd pool m.code.length h) m.hands else 54)
  else 32
def ckMt (pool : List Cs) (m : Mt) (ahead : List Mt) : Nat := if ckFace m ahead ≠ 0 then ckFace m ahead else ckBody pool m
/-- What is wrong with a class. -/
def chk (c : Cl) : Nat :=
  if isName c.name = true ∧ (c.super = e0 ∨ isName c.super = true) then
    (if eachE 128 (fun x _ => ckCs x) c.pool ≠ 0 then eachE 128 (fun x _ => ckCs x) c.pool
     else if eachE 8 ckFd c.fields ≠ 0 then eachE 8 ckFd c.fields
     else eachE 12 (ckMt c.pool) c.methods)
  else 50

/-! ### How they lie in memory -/
def tyV (t : Ty) : Value := .agg #[.int .i64 t.k, .string t.c]
def csV (x : Cs) : Value := .agg #[.int .i64 x.k, .int .i64 x.n, .complex .f64 x.re x.im, .string x.c, .string x.m]
def fdV (x : Fd) : Value := .agg #[.string x.name, .int .i64 x.ty.k, .string x.ty.c, .bool x.vol]
def hdV (h : Hd) : Value := .agg #[.int .i64 h.fr, .int .i64 h.to, .int .i64 h.tg, .int .i64 h.cl, .int .i64 h.dp]
def msV (m : Ms) : Value := .agg #[.string m.name, .slice m.p.a m.p.n m.p.c, .int .i64 m.ret.k, .string m.ret.c, .int .i64 m.lo, .int .i64 m.st, .slice m.c.a m.c.n m.c.c, .slice m.h.a m.h.n m.h.c]
def tyC (t : Ty) : List Value := [.int .i64 t.k, .string t.c]
def csC (x : Cs) : List Value := [.int .i64 x.k, .int .i64 x.n, .complex .f64 x.re x.im, .string x.c, .string x.m]
def fdC (x : Fd) : List Value := [.string x.name, .int .i64 x.ty.k, .string x.ty.c, .bool x.vol]
def hdC (h : Hd) : List Value := [.int .i64 h.fr, .int .i64 h.to, .int .i64 h.tg, .int .i64 h.cl, .int .i64 h.dp]

def msC (m : Ms) : List Value := [.string m.name, .slice m.p.a m.p.n m.p.c, .int .i64 m.ret.k, .string m.ret.c, .int .i64 m.lo, .int .i64 m.st, .slice m.c.a m.c.n m.c.c, .slice m.h.a m.h.n m.h.c]

def elTy : El Ty := { t := 49, e := 46, n := 2, z := .agg #[.int .i64 0, .string e0], b := 24, f := tyC }
def elCs : El Cs := { t := 24, e := 39, n := 5, z := .agg #[.int .i64 0, .int .i64 0, .complex .f64 0 0, .string e0, .string e0], b := 64, f := csC }
def elFd : El Fd := { t := 25, e := 48, n := 4, z := .agg #[.string e0, .int .i64 0, .string e0, .bool false], b := 48, f := fdC }
def elHd : El Hd := { t := 51, e := 59, n := 5, z := .agg #[.int .i64 0, .int .i64 0, .int .i64 0, .int .i64 0, .int .i64 0], b := 40, f := hdC }
def elMs : El Ms := { t := 26, e := 53, n := 8, z := .agg #[.string e0, .slice none 0 0, .int .i64 0, .string e0, .int .i64 0, .int .i64 0, .slice none 0 0, .slice none 0 0], b := 128, f := msC }

theorem nob_int (n : Int) : nob (.int .i64 n) := fun c h => by cases h
theorem nob_str (s : ByteArray) : nob (.string s) := fun c h => by cases h
theorem nob_cx (a b : Nat) : nob (.complex .f64 a b) := fun c h => by cases h
theorem nob_bool (b : Bool) : nob (.bool b) := fun c h => by cases h
theorem nob_sl (a : Option Addr) (n c : Nat) : nob (.slice a n c) := fun c h => by cases h

theorem okTy : elTy.Ok where
  und := Tryz.underlying49
  info := by kernel_rfl
  len := fun _ => rfl
  one := fun x u hu => by simp [elTy, tyC] at hu; rcases hu with rfl | rfl <;> rfl
  nb := fun x u hu => by simp [elTy, tyC] at hu; rcases hu with rfl | rfl; exact nob_int _; exact nob_str _
  zlen := rfl
  znb := fun u hu => by
    have : u ∈ [Value.int .i64 0, .string e0] := hu
    simp at this; rcases this with rfl | rfl; exact nob_int _; exact nob_str _
  bs := by decide
  pos := by decide
theorem okCs : elCs.Ok where
  und := Tryz.underlying24
  info := by kernel_rfl
  len := fun _ => rfl
  one := fun x u hu => by simp [elCs, csC] at hu; rcases hu with rfl | rfl | rfl | rfl | rfl <;> rfl
  nb := fun x u hu => by simp [elCs, csC] at hu; rcases hu with rfl | rfl | rfl | rfl | rfl; exact nob_int _; exact nob_int _; exact nob_cx _ _; exact nob_str _; exact nob_str _
  zlen := rfl
  znb := fun u hu => by
    have : u ∈ [Value.int .i64 0, .int .i64 0, .complex .f64 0 0, .string e0, .string e0] := hu
    simp at this; rcases this with rfl | rfl | rfl; exact nob_int _; exact nob_cx _ _; exact nob_str _
  bs := by decide
  pos := by decide
theorem okFd : elFd.Ok where
  und := Tryz.underlying25
  info := by kernel_rfl
  len := fun _ => rfl
  one := fun x u hu => by simp [elFd, fdC] at hu; rcases hu with rfl | rfl | rfl | rfl <;> rfl
  nb := fun x u hu => by simp [elFd, fdC] at hu; rcases hu with rfl | rfl | rfl | rfl; exact nob_str _; exact nob_int _; exact nob_str _; exact nob_bool _
  zlen := by kernel_rfl
  znb := fun u hu => by
    have : u ∈ [Value.string e0, .int .i64 0, .string e0, .bool false] := by
      have e : elFd.z.cells = #[Value.string e0, .int .i64 0, .string e0, .bool false] := by kernel_rfl
      rw [e] at hu
      exact hu
    simp at this; rcases this with rfl | rfl | rfl | rfl; exact nob_str _; exact nob_int _; exact nob_str _; exact nob_bool _
  bs := by decide
  pos := by decide
theorem okHd : elHd.Ok where
  und := Tryz.underlying51
  info := by kernel_rfl
  len := fun _ => rfl
  one := fun x u hu => by simp [elHd, hdC] at hu; rcases hu with rfl | rfl | rfl | rfl | rfl <;> rfl
  nb := fun x u hu => by simp [elHd, hdC] at hu; rcases hu with rfl | rfl | rfl | rfl | rfl <;> exact nob_int _
  zlen := rfl
  znb := fun u hu => by
    have : u ∈ [Value.int .i64 0, .int .i64 0, .int .i64 0, .int .i64 0, .int .i64 0] := hu
    simp at this; rcases this with rfl; exact nob_int _
  bs := by decide
  pos := by decide
theorem okMs : elMs.Ok where
  und := Tryz.underlying26
  info := by kernel_rfl
  len := fun _ => rfl
  one := fun x u hu => by simp [elMs, msC] at hu; rcases hu with rfl | rfl | rfl | rfl | rfl | rfl | rfl | rfl <;> rfl
  nb := fun x u hu => by simp [elMs, msC] at hu; rcases hu with rfl | rfl | rfl | rfl | rfl | rfl | rfl | rfl; exact nob_str _; exact nob_sl _ _ _; exact nob_int _; exact nob_str _; exact nob_int _; exact nob_int _; exact nob_sl _ _ _; exact nob_sl _ _ _
  zlen := by kernel_rfl
  znb := fun u hu => by
    have : u ∈ [Value.string e0, .slice none 0 0, .int .i64 0, .string e0, .int .i64 0, .int .i64 0, .slice none 0 0, .slice none 0 0] := by
      have e : elMs.z.cells = #[Value.string e0, .slice none 0 0, .int .i64 0, .string e0, .int .i64 0, .int .i64 0, .slice none 0 0, .slice none 0 0] := by kernel_rfl
      rw [e] at hu
      exact hu
    simp at this; rcases this with rfl | rfl | rfl | rfl | rfl | rfl <;> first | exact nob_str _ | exact nob_sl _ _ _ | exact nob_int _
  bs := by decide
  pos := by decide
end Go.Proofs.YthncdbobjeeeaaaGreatDoor

/- Each thing is read in one form alone: numbers, texts, signs folded in, complex numbers, instructions: without memory. -/
namespace Go.Proofs.YthncdbobjeeeaaaGreatDoor

theorem rd_inv (l : List Nat) : ∀ (i f acc m k : Nat), i + f = 9 → rd l i acc = (m, 0, k) → (∀ c ∈ l, c < 256) →
    ∃ n, m = acc + n * 2 ^ (7 * i) ∧ n < 2 ^ (64 - 7 * i) ∧ l = en f n ++ l.drop (k - i) ∧ (0 < i → 0 < n) ∧ i ≤ k := by
  induction l with
  | nil => intro i f acc m k _ h _; simp [rd] at h
  | cons c cs ih =>
    intro i f acc m k hf h hl
    have hc := hl c (by simp)
    unfold rd at h
    split at h
    · simp at h
    · rename_i h9
      split at h
      · rename_i h128
        split at h
        · simp at h
        · rename_i h0
          simp only [Prod.mk.injEq, true_and] at h
          obtain ⟨rfl, rfl⟩ := h
          refine ⟨c, rfl, ?_, ?_, fun hi => Nat.pos_of_ne_zero (fun e => h0 ⟨hi, e⟩), by omega⟩
          · by_cases hi : i = 9
            · have : c = 1 := Classical.byContradiction fun e => h9 ⟨hi, e⟩
              subst this hi
              decide
            · exact Nat.lt_of_lt_of_le h128 (by
                have : (2 : Nat) ^ 7 ≤ 2 ^ (64 - 7 * i) := Nat.pow_le_pow_right (by omega) (by omega)
                simpa using this)
          · rw [en_small f c h128, show i + 1 - i = 1 by omega]
            rfl
      · rename_i h128
        have hi9 : i ≠ 9 := fun e => h9 ⟨e, by omega⟩
        obtain ⟨g, rfl⟩ : ∃ g, f = g + 1 := ⟨f - 1, by omega⟩
        obtain ⟨n', e1, e2, e3, e4, e5⟩ := ih (i + 1) g _ m k (by omega) h (fun d hd => hl d (by simp [hd]))
        have hn' := e4 (by omega)
        refine ⟨n' * 128 + (c - 128), ?_, ?_, ?_, fun _ => by omega, by omega⟩
        · rw [e1, show 7 * (i + 1) = 7 + 7 * i by omega, Nat.pow_add]
          generalize 2 ^ (7 * i) = p
          rw [Nat.add_mul, show n' * 128 * p = n' * (2 ^ 7 * p) by rw [Nat.mul_assoc]]
          omega
        · have : (2 : Nat) ^ (64 - 7 * i) = 128 * 2 ^ (64 - 7 * (i + 1)) := by rw [show 64 - 7 * i = 7 + (64 - 7 * (i + 1)) by omega, Nat.pow_add]
          omega
        · rw [en_step g _ (by omega), show (n' * 128 + (c - 128)) % 128 + 128 = c by omega, show (n' * 128 + (c - 128)) / 128 = n' by omega]
          have hk : k - i = (k - (i + 1)) + 1 := by omega
          rw [hk, List.drop_succ_cons, List.cons_append, ← e3]

theorem rd_enc_inv (l : List Nat) (hl : ∀ c ∈ l, c < 256) (h : (rd l 0 0).2.1 = 0) : l = enc (rd l 0 0).1 ++ l.drop (rd l 0 0).2.2 ∧ (rd l 0 0).1 < 2 ^ 64 := by
  obtain ⟨n, e1, e2, e3, _, _⟩ := rd_inv l 0 9 0 (rd l 0 0).1 (rd l 0 0).2.2 rfl (Prod.ext rfl (Prod.ext h rfl)) hl
  have e : (rd l 0 0).1 = n := by simpa using e1
  rw [e]
  exact ⟨by simpa [enc] using e3, by simpa using e2⟩

theorem ct_inv (l : List Nat) (most : Int) (hl : ∀ c ∈ l, c < 256) (h : (ct l most).2.1 = 0) : l = enc (ct l most).1 ++ l.drop (ct l most).2.2 ∧ (ct l most).1 < 2 ^ 64 ∧ ((ct l most).1 : Int) ≤ most := by
  unfold ct at h ⊢
  by_cases hx : (rd l 0 0).2.1 = 0
  · rw [if_neg (by simpa using hx)] at h ⊢
    by_cases hy : most < ((rd l 0 0).1 : Int)
    · rw [if_pos hy] at h; simp at h
    · rw [if_neg hy]
      have := rd_enc_inv l hl hx
      exact ⟨this.1, this.2, by omega⟩
  · rw [if_pos hx] at h; exact absurd h hx

theorem tx_inv (l : List Nat) (most : Int) (hl : ∀ c ∈ l, c < 256) (h : (tx l most).2.1 = 0) : l = (enc (tx l most).1.length ++ (tx l most).1) ++ l.drop (tx l most).2.2 ∧ ((tx l most).1.length : Int) ≤ most ∧ (∀ c ∈ (tx l most).1, c < 256) := by
  have C := ct_inv l most hl
  unfold tx at h ⊢
  by_cases hx : (ct l most).2.1 = 0
  · rw [if_neg (by simpa using hx)] at h ⊢
    obtain ⟨e1, e2, e3⟩ := C hx
    by_cases hy : (l.drop (ct l most).2.2).length < (ct l most).1
    · rw [if_pos hy] at h; simp at h
    · rw [if_neg hy]
      simp only []
      have hlen : ((l.drop (ct l most).2.2).take (ct l most).1).length = (ct l most).1 := by rw [List.length_take]; omega
      rw [hlen]
      refine ⟨?_, e3, fun c hc => hl c (List.mem_of_mem_drop (List.mem_of_mem_take hc))⟩
      rw [List.append_assoc, ← List.drop_drop, List.take_append_drop]
      exact e1
  · rw [if_pos hx] at h; exact absurd h hx

theorem fo_unf (u : Nat) : fo (unf u) = u := by
  unfold fo unf
  by_cases h : u % 2 = 1
  · rw [if_pos h, if_pos (by omega)]
    omega
  · rw [if_neg h, if_neg (by omega)]
    omega
theorem unf_range (u : Nat) (h : u < 2 ^ 64) : -9223372036854775808 ≤ unf u ∧ unf u ≤ 9223372036854775807 := by
  unfold unf
  split <;> omega

theorem va_le (n : Nat) : ∀ (j : Nat) (r : List Nat), va (le n j ++ r) j = n % 256 ^ j := by
  intro j
  induction j with
  | zero => intro r; simp [va, Nat.mod_one]
  | succ j ih =>
    intro r
    have e : le n (j + 1) ++ r = le n j ++ ([n / 256 ^ j % 256] ++ r) := by simp [le]
    rw [e, va, ih, List.getD_eq_getElem?_getD, List.getElem?_append_right (by rw [le_length]; omega), le_length, Nat.sub_self]
    simp only [List.singleton_append, List.getElem?_cons_zero, Option.getD_some]
    rw [Nat.pow_succ, Nat.mod_mul, show (2 : Nat) ^ (8 * j) = 256 ^ j by rw [Nat.pow_mul], Nat.mul_comm]

theorem va_mod (l : List Nat) (hl : ∀ c ∈ l, c < 256) (i d : Nat) : va l (i + d) % 256 ^ i = va l i := by
  have hlt : ∀ j, va l j < 256 ^ j := fun j => by have := va_lt l hl j; rwa [Nat.pow_mul] at this
  induction d with
  | zero => exact Nat.mod_eq_of_lt (hlt i)
  | succ d ih =>
    rw [show i + (d + 1) = (i + d) + 1 by omega, va, show (2 : Nat) ^ (8 * (i + d)) = 256 ^ d * 256 ^ i by rw [Nat.pow_mul, ← Nat.pow_add, Nat.add_comm], ← Nat.mul_assoc, Nat.add_mul_mod_self_right]
    exact ih

theorem le_va (l : List Nat) (hl : ∀ c ∈ l, c < 256) (hlen : 8 ≤ l.length) : ∀ j, j ≤ 8 → le (va l 8) j = l.take j := by
  intro j
  induction j with
  | zero => intro _; simp [le]
  | succ j ih =>
    intro hj
    have hlt : ∀ j, va l j < 256 ^ j := fun j => by have := va_lt l hl j; rwa [Nat.pow_mul] at this
    obtain ⟨c, hc⟩ : ∃ c, l[j]? = some c := ⟨_, List.getElem?_eq_getElem (by omega)⟩
    have e : va l 8 / 256 ^ j % 256 = c := by
      have h1 := va_mod l hl (j + 1) (8 - (j + 1))
      rw [show j + 1 + (8 - (j + 1)) = 8 by omega] at h1
      have h2 : va l 8 % (256 ^ j * 256) / 256 ^ j = va l 8 / 256 ^ j % 256 := Nat.mod_mul_right_div_self _ _ _
      rw [← h2, ← Nat.pow_succ, h1, va, List.getD_eq_getElem?_getD, hc, show (2 : Nat) ^ (8 * j) = 256 ^ j by rw [Nat.pow_mul]]
      simp only [Option.getD_some]
      rw [Nat.add_mul_div_right _ _ (Nat.pow_pos (by omega)), Nat.div_eq_of_lt (hlt j), Nat.zero_add]
    rw [le, ih (by omega), e, take_next l j c hc]

theorem cxd_inv (l : List Nat) (hl : ∀ c ∈ l, c < 256) (h : (cxd l).2.2.1 = 0) : l = (le (cxd l).1 8 ++ le (cxd l).2.1 8) ++ l.drop (cxd l).2.2.2 ∧ (cxd l).1 < 2 ^ 64 ∧ (cxd l).2.1 < 2 ^ 64 := by
  unfold cxd at h ⊢
  by_cases hx : l.length < 16
  · rw [if_pos hx] at h; simp at h
  · rw [if_neg hx]
    simp only []
    have hd : ∀ c ∈ l.drop 8, c < 256 := fun c hc => hl c (List.mem_of_mem_drop hc)
    rw [le_va l hl (by omega) 8 (by omega), le_va (l.drop 8) hd (by rw [List.length_drop]; omega) 8 (by omega)]
    refine ⟨?_, va_lt l hl 8, va_lt _ hd 8⟩
    have e : (l.drop 8).take 8 ++ l.drop 16 = l.drop 8 := by
      have := List.take_append_drop 8 (l.drop 8)
      rwa [List.drop_drop] at this
    rw [List.append_assoc, e, List.take_append_drop]

theorem cxd_le (a b : Nat) (r : List Nat) (ha : a < 2 ^ 64) (hb : b < 2 ^ 64) : cxd ((le a 8 ++ le b 8) ++ r) = (a, b, 0, 16) := by
  unfold cxd
  have hl : ((le a 8 ++ le b 8) ++ r).length = 16 + r.length := by simp [le_length]; omega
  rw [if_neg (by rw [hl]; omega)]
  have e1 : va ((le a 8 ++ le b 8) ++ r) 8 = a := by
    rw [List.append_assoc, va_le]
    exact Nat.mod_eq_of_lt (by simpa using ha)
  have e2 : ((le a 8 ++ le b 8) ++ r).drop 8 = le b 8 ++ r := by
    rw [List.append_assoc, List.drop_append_of_le_length (by rw [le_length]; omega), List.drop_of_length_le (by rw [le_length]; omega), List.nil_append]
  have e3 : va (le b 8 ++ r) 8 = b := by
    rw [va_le]
    exact Nat.mod_eq_of_lt (by simpa using hb)
  rw [e1, e2, e3]

/-! ### Instructions -/
theorem rone_inv (r : List Nat) (hl : ∀ c ∈ r, c < 256) (h : (rone r).2.1 = 0) : r = one (rone r).1 ++ r.drop (rone r).2.2 ∧ isb (rone r).1.1 (rone r).1.2 = true := by
  cases r with
  | nil => simp [rone] at h
  | cons c r =>
    rw [rone_cons] at h ⊢
    rcases od_cases (c : Int) with e | e | ⟨e1, e2⟩
    · rw [if_pos e] at h; simp at h
    · rw [if_neg (by omega), if_pos e]
      refine ⟨?_, ?_⟩
      · simp only []
        rw [one_zero c 0 e]
        rfl
      · rw [isb_zero _ _ e]
        rfl
    · rw [if_neg (by omega), if_neg (by omega)] at h ⊢
      by_cases hx : (rd r 0 0).2.1 = 0
      · rw [if_neg (by simpa using hx)] at h ⊢
        by_cases hy : 999 < (rd r 0 0).1
        · rw [if_pos hy] at h; simp at h
        · rw [if_neg hy]
          have hi := rd_enc_inv r (fun d hd => hl d (by simp [hd])) hx
          refine ⟨?_, ?_⟩
          · simp only []
            rw [one_pos c _ e1, Nat.add_comm 1, List.drop_succ_cons, List.cons_append, ← hi.1]
          · rw [isb_pos _ _ e1]
            simp only [decide_eq_true_eq]
            omega
      · rw [if_pos hx] at h; exact absurd h hx

theorem fin_inv (n : Nat) : ∀ (acc : List (Int × Int)) (r : List Nat) (L : List (Int × Int)), (∀ c ∈ r, c < 256) → fin acc n r = (L, 0) → ∃ M, L = acc ++ M ∧ M.length = n ∧ allIs M = true ∧ r = wri M := by
  induction n with
  | zero =>
    intro acc r L hl h
    unfold fin at h
    by_cases hr : r = []
    · rw [if_pos hr] at h
      simp only [Prod.mk.injEq, and_true] at h
      exact ⟨[], by simp [h], rfl, rfl, hr⟩
    · rw [if_neg hr] at h; simp at h
  | succ n ih =>
    intro acc r L hl h
    unfold fin at h
    by_cases hx : (rone r).2.1 = 0
    · rw [if_neg (by simpa using hx)] at h
      obtain ⟨e1, e2⟩ := rone_inv r hl hx
      obtain ⟨M, g1, g2, g3, g4⟩ := ih _ _ L (fun c hc => hl c (List.mem_of_mem_drop hc)) h
      refine ⟨(rone r).1 :: M, by rw [g1]; simp, by simp [g2], ?_, ?_⟩
      · unfold allIs at g3 ⊢
        rw [List.all_cons, e2, g3]
        rfl
      · show r = one (rone r).1 ++ wri M
        rw [← g4]
        exact e1
    · rw [if_pos hx] at h
      simp only [Prod.mk.injEq] at h
      exact absurd h.2 hx

theorem gt_inv (b : List Nat) (hb : ∀ c ∈ b, c < 256) (h : (gt b).2 = 0) : b = ptB (gt b).1 ∧ (gt b).1.length ≤ 200 ∧ allIs (gt b).1 = true := by
  have C := ct_inv b 200 hb
  unfold gt at h ⊢
  by_cases hx : (ct b 200).2.1 = 0
  · rw [if_neg (by simpa using hx)] at h ⊢
    obtain ⟨e1, e2, e3⟩ := C hx
    obtain ⟨M, g1, g2, g3, g4⟩ := fin_inv (ct b 200).1 [] (b.drop (ct b 200).2.2) _ (fun c hc => hb c (List.mem_of_mem_drop hc)) (Prod.ext rfl h)
    rw [List.nil_append] at g1
    have g1' : (fin [] (ct b 200).1 (b.drop (ct b 200).2.2)).fst = M := g1
    rw [g1']
    refine ⟨?_, by omega, g3⟩
    unfold ptB
    rw [if_pos ⟨by omega, g3⟩, g2, ← g4]
    exact e1
  · rw [if_pos hx] at h; exact absurd h hx

theorem gt_ptB (l : List (Int × Int)) (h1 : l.length ≤ 200) (h2 : allIs l = true) : gt (ptB l) = (l, 0) := by
  have e : ptB l = (enc l.length ++ wri l) ++ [] := by unfold ptB; rw [if_pos ⟨h1, h2⟩, List.append_nil]
  rw [e, gt_put l [] h1 h2, if_pos rfl]
end Go.Proofs.YthncdbobjeeeaaaGreatDoor

