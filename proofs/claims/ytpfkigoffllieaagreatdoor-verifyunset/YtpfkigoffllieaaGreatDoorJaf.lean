/- Rows of slots, of classes, of linked classes; what lies in new memory. -/
import Derived.Test.YtpfkigoffllieaaGreatDoorJae
namespace Go.Proofs.YtpfkigoffllieaaGreatDoor
open Go.ChangeShapes Go.WideShapes Go.ChangeAt Go.RowKit

section
variable {α : Type} {K : El α}

/-- v's row is none that w has. -/
def NewV (w : World) (v : Value) : Prop := ∀ k, v.ownBlock = some k → w.heap.size ≤ k

theorem NewV.nil (w : World) : NewV w (.slice none 0 0) := fun k h => by simp [Value.ownBlock] at h

theorem NewV.older {w w1 : World} {v : Value} (h : NewV w1 v) (f : w.heap.size ≤ w1.heap.size) : NewV w v := fun k hk => Nat.le_trans f (h k hk)

/-- A row of one's own grows: it stays new. -/
theorem NewV.step {w wr w' : World} {v v' : Value} (h : NewV w v) (f : Fr no w wr) (s : Sp no v wr v' w') : NewV w v' ∧ Fr no w w' := by
  refine ⟨fun k hk => ?_, f.new s.1 (fun i hi e => ?_)⟩
  · by_cases hlt : k < wr.heap.size
    · exact h k (s.2 k hlt hk)
    · have := f.size
      omega
  · rcases e with e | e
    · exact e
    · have := h i e
      omega

theorem OwnG.keep {w w' : World} {v : Value} {l : List α} (h : OwnG K w v l) (hf : Fr no w w') : OwnG K w' v l := h.kept hf (fun _ _ f => f)

theorem SlG.src (hK : K.Ok) {w : World} {a : Addr} {n c : Nat} {l : List α} (h : SlG K w (.slice (some a) n c) l) : Src Tryz.prog K.n K.t (.slice (some a) n c) l.length (cg K l) w := by
  obtain ⟨ad, cap, e, h1, h2, h3⟩ := h
  simp only [Value.slice.injEq] at e
  obtain ⟨rfl, rfl, rfl⟩ := e
  refine Src.ofSlice _ hK.und _ _ _ _ (cg_length hK l) (fun j u hj => ?_) (cg_one hK _)
  have hp := hK.pos
  have hjl : j < l.length * K.n := by rw [← cg_length hK]; exact (List.getElem?_eq_some_iff.1 hj).1
  have hq : j / K.n < l.length := Nat.div_lt_of_lt_mul (by rw [Nat.mul_comm]; exact hjl)
  obtain ⟨x, hx⟩ : ∃ x, l[j / K.n]? = some x := ⟨_, List.getElem?_eq_getElem hq⟩
  have hm : j % K.n < (K.f x).length := by rw [hK.len]; exact Nat.mod_lt _ hp
  have hd : j / K.n * K.n + j % K.n = j := by rw [Nat.mul_comm]; exact Nat.div_add_mod j K.n
  have hg := cg_get hK l _ x hx (j % K.n) _ (List.getElem?_eq_getElem hm)
  rw [hd, hj] at hg
  obtain ⟨b, off, ha, hc⟩ := h3 _ x hx
  simp only [Option.some.injEq] at ha
  subst ha
  have := hc _ _ (List.getElem?_eq_getElem hm)
  rw [Addr.add_lit, hg]
  rw [show off + j / K.n * K.n + j % K.n = off + j by omega] at this
  exact this

theorem own_empty (w : World) : OwnG K (w.alloc (.cells #[] K.e)) (.slice (some ⟨w.heap.size, 0, none⟩) 0 0) [] := by
  refine ⟨World.ownsRow_made w #[] 0 (Nat.zero_le _) (Nat.zero_le _) (by simp), fun k cur t fz hk hc => ?_⟩
  simp only [Value.ownBlock, Option.some.injEq] at hk
  subst hk
  rw [heap_alloc_new] at hc
  simp only [Option.some.injEq, Obj.cells.injEq] at hc
  obtain ⟨rfl, _, _⟩ := hc
  intro u hu
  simp at hu

/-- A row that a literal has made. -/
theorem own_lit (hK : K.Ok) (w : World) (l : List α) (cs : Array Value) (hc : cs = (cg K l).toArray) (h : l.length ≤ maxLen) : OwnG K (w.alloc (.cells cs K.e)) (.slice (some ⟨w.heap.size, 0, none⟩) l.length l.length) l := by
  subst hc
  refine ⟨⟨cg_length hK l, .inr ⟨w.heap.size, l.length, (cg K l).toArray, rfl, Nat.zero_le _, heap_alloc_new w _, Nat.le_refl _, h, by simp [cg_length hK], ?_⟩⟩, fun k cur t fz hk hc => ?_⟩
  · rw [← cg_length hK]
    exact List.take_of_length_le (by simp)
  · simp only [Value.ownBlock, Option.some.injEq] at hk
    subst hk
    rw [heap_alloc_new] at hc
    simp only [Option.some.injEq, Obj.cells.injEq] at hc
    obtain ⟨rfl, _, _⟩ := hc
    intro u hu
    exact cg_nob hK l u (by simpa using hu)

/-- A slice without elements. -/
theorem SlG.nil (K : El α) (w : World) : SlG K w (.slice none 0 0) [] := ⟨none, 0, rfl, Nat.zero_le _, Nat.zero_le _, fun i x hx => by simp at hx⟩

theorem SlG.none_nil {w : World} {n c : Nat} {l : List α} (h : SlG K w (.slice none n c) l) : l = [] := by
  obtain ⟨ad, cap, e, h1, h2, h3⟩ := h
  simp only [Value.slice.injEq] at e
  obtain ⟨rfl, rfl, rfl⟩ := e
  cases l with
  | nil => rfl
  | cons x l =>
    obtain ⟨b, off, ha, _⟩ := h3 0 x rfl
    simp at ha

theorem SlG.form {w : World} {v : Value} {l : List α} (h : SlG K w v l) : ∃ o c, v = .slice o l.length c := by
  obtain ⟨ad, cap, e, _⟩ := h
  exact ⟨ad, cap, e⟩
end

/-- A slot. -/
structure Slt where
  cls : ByteArray
  f : Fd
  at' : Int

/-- A linked class whose lists are slices. -/
structure Lk where
  k : Ks
  s : Sv
  wd : Int
  fm : Nat
  mm : Nat

def slC (x : Slt) : List Value := [.string x.cls, .string x.f.name, .int .i64 x.f.ty.k, .string x.f.ty.c, .bool x.f.vol, .int .i64 x.at']
def ksC (s : Ks) : List Value := [.string s.name, .string s.super, .slice s.p.a s.p.n s.p.c, .slice s.f.a s.f.n s.f.c, .slice s.m.a s.m.n s.m.c]
def lkC (x : Lk) : List Value := [.string x.k.name, .string x.k.super, .slice x.k.p.a x.k.p.n x.k.p.c, .slice x.k.f.a x.k.f.n x.k.f.c, .slice x.k.m.a x.k.m.n x.k.m.c, .slice x.s.a x.s.n x.s.c, .int .i64 x.wd, .map (some x.fm), .map (some x.mm)]

def elSt : El Slt := { t := 116, e := 182, n := 6, z := .agg #[.string e0, .string e0, .int .i64 0, .string e0, .bool false, .int .i64 0], b := 72, f := slC }
def elKs : El Ks := { t := 49, e := 68, n := 5, z := .agg #[.string e0, .string e0, .slice none 0 0, .slice none 0 0, .slice none 0 0], b := 104, f := ksC }
def elLk : El Lk := { t := 109, e := 119, n := 9, z := .agg #[.string e0, .string e0, .slice none 0 0, .slice none 0 0, .slice none 0 0, .slice none 0 0, .int .i64 0, .map none, .map none], b := 152, f := lkC }


theorem okIn : elIn.Ok where
  und := Tryz.underlying24
  info := by kernel_rfl
  len := fun _ => rfl
  one := fun x u hu => by simp [elIn] at hu; rcases hu with rfl | rfl <;> rfl
  nb := fun x u hu => by simp [elIn] at hu; rcases hu with rfl | rfl <;> exact nob_int _
  zlen := by kernel_rfl
  znb := fun u hu => by
    have : u ∈ [Value.int .i64 0, .int .i64 0] := by
      have e : elIn.z.cells = #[Value.int .i64 0, .int .i64 0] := by kernel_rfl
      rw [e] at hu
      exact hu
    simp at this; subst this; exact nob_int _
  bs := by decide
  pos := by decide

/-- A row of instructions, one by one. -/
theorem SlG.i {w : World} {v : Value} {l : List (Int × Int)} (h : SlG elIn w v l) : SlI w v l := by
  obtain ⟨ad, cap, rfl, h1, h2, h3⟩ := h
  refine ⟨ad, cap, rfl, h1, h2, fun i x hx => ?_⟩
  obtain ⟨b, off, rfl, hc⟩ := h3 i x hx
  exact ⟨b, off, rfl, hc 0 _ rfl, hc 1 _ rfl⟩

theorem nob_map (b : Option Nat) : nob (.map b) := fun c h => by cases h

theorem okSt : elSt.Ok where
  und := Tryz.underlying116
  info := by kernel_rfl
  len := fun _ => rfl
  one := fun x u hu => by simp [elSt, slC] at hu; rcases hu with rfl | rfl | rfl | rfl | rfl | rfl <;> rfl
  nb := fun x u hu => by simp [elSt, slC] at hu; rcases hu with rfl | rfl | rfl | rfl | rfl | rfl <;> first | exact nob_str _ | exact nob_int _ | exact nob_bool _
  zlen := by kernel_rfl
  znb := fun u hu => by
    have : u ∈ [Value.string e0, .string e0, .int .i64 0, .string e0, .bool false, .int .i64 0] := by
      have e : elSt.z.cells = #[Value.string e0, .string e0, .int .i64 0, .string e0, .bool false, .int .i64 0] := by kernel_rfl
      rw [e] at hu
      exact hu
    simp at this; rcases this with rfl | rfl | rfl | rfl | rfl <;> first | exact nob_str _ | exact nob_int _ | exact nob_bool _
  bs := by decide
  pos := by decide
theorem okKs : elKs.Ok where
  und := Tryz.underlying49
  info := by kernel_rfl
  len := fun _ => rfl
  one := fun x u hu => by simp [elKs, ksC] at hu; rcases hu with rfl | rfl | rfl | rfl | rfl <;> rfl
  nb := fun x u hu => by simp [elKs, ksC] at hu; rcases hu with rfl | rfl | rfl | rfl | rfl <;> first | exact nob_str _ | exact nob_sl _ _ _
  zlen := by kernel_rfl
  znb := fun u hu => by
    have : u ∈ [Value.string e0, .string e0, .slice none 0 0, .slice none 0 0, .slice none 0 0] := by
      have e : elKs.z.cells = #[Value.string e0, .string e0, .slice none 0 0, .slice none 0 0, .slice none 0 0] := by kernel_rfl
      rw [e] at hu
      exact hu
    simp at this; rcases this with rfl | rfl <;> first | exact nob_str _ | exact nob_sl _ _ _
  bs := by decide
  pos := by decide
theorem okLk : elLk.Ok where
  und := Tryz.underlying109
  info := by kernel_rfl
  len := fun _ => rfl
  one := fun x u hu => by simp [elLk, lkC] at hu; rcases hu with rfl | rfl | rfl | rfl | rfl | rfl | rfl | rfl | rfl <;> rfl
  nb := fun x u hu => by simp [elLk, lkC] at hu; rcases hu with rfl | rfl | rfl | rfl | rfl | rfl | rfl | rfl | rfl <;> first | exact nob_str _ | exact nob_sl _ _ _ | exact nob_int _ | exact nob_map _
  zlen := by kernel_rfl
  znb := fun u hu => by
    have : u ∈ [Value.string e0, .string e0, .slice none 0 0, .slice none 0 0, .slice none 0 0, .slice none 0 0, .int .i64 0, .map none, .map none] := by
      have e : elLk.z.cells = #[Value.string e0, .string e0, .slice none 0 0, .slice none 0 0, .slice none 0 0, .slice none 0 0, .int .i64 0, .map none, .map none] := by kernel_rfl
      rw [e] at hu
      exact hu
    simp at this; rcases this with rfl | rfl | rfl | rfl <;> first | exact nob_str _ | exact nob_sl _ _ _ | exact nob_int _ | exact nob_map _
  bs := by decide
  pos := by decide

end Go.Proofs.YtpfkigoffllieaaGreatDoor

/- What the library's Clone tells: a new row of the same things. -/
namespace Go.Proofs.YtpfkigoffllieaaGreatDoor
open Go.ChangeShapes Go.WideShapes Go.ChangeAt Go.RowKit

theorem nil_eqSt (w : World) (n c : Nat) : (binOp .eql 116 (.slice none n c) (.slice none 0 0)).run Tryz.prog w = .ok (.bool true) w := by kernel_rfl
theorem some_eqSt (w : World) (a : Addr) (n c : Nat) : (binOp .eql 116 (.slice (some a) n c) (.slice none 0 0)).run Tryz.prog w = .ok (.bool false) w := by kernel_rfl



theorem nil_eqTy (w : World) (n c : Nat) : (binOp .eql 56 (.slice none n c) (.slice none 0 0)).run Tryz.prog w = .ok (.bool true) w := by kernel_rfl
theorem some_eqTy (w : World) (a : Addr) (n c : Nat) : (binOp .eql 56 (.slice (some a) n c) (.slice none 0 0)).run Tryz.prog w = .ok (.bool false) w := by kernel_rfl

set_option maxRecDepth 100000 in
theorem cloneTy_any (w : World) (v : Value) (l : List Ty) (h : SlG elTy w v l) (hb : l.length ≤ 1000) :
    Calls Tryz.prog 100 #[v] w fun e w' => ∃ v', e = .returned v' ∧ OwnG elTy w' v' l ∧ NewV w v' ∧ Fr no w w' := by
  have hn := nil_eqTy
  have hsm := some_eqTy
  obtain ⟨o, cap, hv⟩ := h.form
  subst hv
  cases o with
  | none =>
    obtain rfl := h.none_nil
    clear h
    go_enter Tryz.func100, Tryz.ntmps100
    go_wp2_with fail
    go_ret
    exact ⟨_, rfl, OwnG.nil _ _, NewV.nil _, Fr.refl _ _⟩
  | some ad =>
    have HF : Hid (Fr no w (w.alloc (.cells #[] 55))) := (Fr.refl no w).alloc _ _
    have HS : Hid (SlG elTy (w.alloc (.cells #[] 55)) (.slice (some ad) l.length cap) l) := h.kept HF.out
    have HE : Hid (OwnG elTy (w.alloc (.cells #[] 55)) (.slice (some ⟨w.heap.size, 0, none⟩) 0 0) []) := own_empty w
    clear h
    generalize hln : l.length = n at *
    go_enter Tryz.func100, Tryz.ntmps100
    go_wp2_with (first | (at_builtin; refine wpList_apdG okTy _ rfl rfl _ _ rfl (.slice (some ⟨w.heap.size, 0, none⟩) 0 0) [] rfl HE.out _ rfl l (HS.out.src okTy) (by simp) (by simp; omega) ?_; intro v' w1 o1 s1) | go_in)
    go_wp2_with fail
    go_ret
    have N0 : NewV w (.slice (some ⟨w.heap.size, 0, none⟩) 0 0) := fun k hk => by
      simp only [Value.ownBlock, Option.some.injEq] at hk
      omega
    obtain ⟨n1, f1⟩ := N0.step HF.out s1
    exact ⟨_, rfl, by simpa using o1, n1, f1⟩

theorem nil_eqIn (w : World) (n c : Nat) : (binOp .eql 24 (.slice none n c) (.slice none 0 0)).run Tryz.prog w = .ok (.bool true) w := by kernel_rfl
theorem some_eqIn (w : World) (a : Addr) (n c : Nat) : (binOp .eql 24 (.slice (some a) n c) (.slice none 0 0)).run Tryz.prog w = .ok (.bool false) w := by kernel_rfl

set_option maxRecDepth 100000 in
theorem cloneIn_any (w : World) (v : Value) (l : List (Int × Int)) (h : SlG elIn w v l) (hb : l.length ≤ 1000) :
    Calls Tryz.prog 101 #[v] w fun e w' => ∃ v', e = .returned v' ∧ OwnG elIn w' v' l ∧ NewV w v' ∧ Fr no w w' := by
  have hn := nil_eqIn
  have hsm := some_eqIn
  obtain ⟨o, cap, hv⟩ := h.form
  subst hv
  cases o with
  | none =>
    obtain rfl := h.none_nil
    clear h
    go_enter Tryz.func101, Tryz.ntmps101
    go_wp2_with fail
    go_ret
    exact ⟨_, rfl, OwnG.nil _ _, NewV.nil _, Fr.refl _ _⟩
  | some ad =>
    have HF : Hid (Fr no w (w.alloc (.cells #[] 26))) := (Fr.refl no w).alloc _ _
    have HS : Hid (SlG elIn (w.alloc (.cells #[] 26)) (.slice (some ad) l.length cap) l) := h.kept HF.out
    have HE : Hid (OwnG elIn (w.alloc (.cells #[] 26)) (.slice (some ⟨w.heap.size, 0, none⟩) 0 0) []) := own_empty w
    clear h
    generalize hln : l.length = n at *
    go_enter Tryz.func101, Tryz.ntmps101
    go_wp2_with (first | (at_builtin; refine wpList_apdG okIn _ rfl rfl _ _ rfl (.slice (some ⟨w.heap.size, 0, none⟩) 0 0) [] rfl HE.out _ rfl l (HS.out.src okIn) (by simp) (by simp; omega) ?_; intro v' w1 o1 s1) | go_in)
    go_wp2_with fail
    go_ret
    have N0 : NewV w (.slice (some ⟨w.heap.size, 0, none⟩) 0 0) := fun k hk => by
      simp only [Value.ownBlock, Option.some.injEq] at hk
      omega
    obtain ⟨n1, f1⟩ := N0.step HF.out s1
    exact ⟨_, rfl, by simpa using o1, n1, f1⟩

theorem nil_eqHd (w : World) (n c : Nat) : (binOp .eql 62 (.slice none n c) (.slice none 0 0)).run Tryz.prog w = .ok (.bool true) w := by kernel_rfl
theorem some_eqHd (w : World) (a : Addr) (n c : Nat) : (binOp .eql 62 (.slice (some a) n c) (.slice none 0 0)).run Tryz.prog w = .ok (.bool false) w := by kernel_rfl

set_option maxRecDepth 100000 in
theorem cloneHd_any (w : World) (v : Value) (l : List Hd) (h : SlG elHd w v l) (hb : l.length ≤ 1000) :
    Calls Tryz.prog 102 #[v] w fun e w' => ∃ v', e = .returned v' ∧ OwnG elHd w' v' l ∧ NewV w v' ∧ Fr no w w' := by
  have hn := nil_eqHd
  have hsm := some_eqHd
  obtain ⟨o, cap, hv⟩ := h.form
  subst hv
  cases o with
  | none =>
    obtain rfl := h.none_nil
    clear h
    go_enter Tryz.func102, Tryz.ntmps102
    go_wp2_with fail
    go_ret
    exact ⟨_, rfl, OwnG.nil _ _, NewV.nil _, Fr.refl _ _⟩
  | some ad =>
    have HF : Hid (Fr no w (w.alloc (.cells #[] 148))) := (Fr.refl no w).alloc _ _
    have HS : Hid (SlG elHd (w.alloc (.cells #[] 148)) (.slice (some ad) l.length cap) l) := h.kept HF.out
    have HE : Hid (OwnG elHd (w.alloc (.cells #[] 148)) (.slice (some ⟨w.heap.size, 0, none⟩) 0 0) []) := own_empty w
    clear h
    generalize hln : l.length = n at *
    go_enter Tryz.func102, Tryz.ntmps102
    go_wp2_with (first | (at_builtin; refine wpList_apdG okHd _ rfl rfl _ _ rfl (.slice (some ⟨w.heap.size, 0, none⟩) 0 0) [] rfl HE.out _ rfl l (HS.out.src okHd) (by simp) (by simp; omega) ?_; intro v' w1 o1 s1) | go_in)
    go_wp2_with fail
    go_ret
    have N0 : NewV w (.slice (some ⟨w.heap.size, 0, none⟩) 0 0) := fun k hk => by
      simp only [Value.ownBlock, Option.some.injEq] at hk
      omega
    obtain ⟨n1, f1⟩ := N0.step HF.out s1
    exact ⟨_, rfl, by simpa using o1, n1, f1⟩

theorem nil_eqCs (w : World) (n c : Nat) : (binOp .eql 33 (.slice none n c) (.slice none 0 0)).run Tryz.prog w = .ok (.bool true) w := by kernel_rfl
theorem some_eqCs (w : World) (a : Addr) (n c : Nat) : (binOp .eql 33 (.slice (some a) n c) (.slice none 0 0)).run Tryz.prog w = .ok (.bool false) w := by kernel_rfl

set_option maxRecDepth 100000 in
theorem cloneCs_any (w : World) (v : Value) (l : List Cs) (h : SlG elCs w v l) (hb : l.length ≤ 1000) :
    Calls Tryz.prog 84 #[v] w fun e w' => ∃ v', e = .returned v' ∧ OwnG elCs w' v' l ∧ NewV w v' ∧ Fr no w w' := by
  have hn := nil_eqCs
  have hsm := some_eqCs
  obtain ⟨o, cap, hv⟩ := h.form
  subst hv
  cases o with
  | none =>
    obtain rfl := h.none_nil
    clear h
    go_enter Tryz.func84, Tryz.ntmps84
    go_wp2_with fail
    go_ret
    exact ⟨_, rfl, OwnG.nil _ _, NewV.nil _, Fr.refl _ _⟩
  | some ad =>
    have HF : Hid (Fr no w (w.alloc (.cells #[] 32))) := (Fr.refl no w).alloc _ _
    have HS : Hid (SlG elCs (w.alloc (.cells #[] 32)) (.slice (some ad) l.length cap) l) := h.kept HF.out
    have HE : Hid (OwnG elCs (w.alloc (.cells #[] 32)) (.slice (some ⟨w.heap.size, 0, none⟩) 0 0) []) := own_empty w
    clear h
    generalize hln : l.length = n at *
    go_enter Tryz.func84, Tryz.ntmps84
    go_wp2_with (first | (at_builtin; refine wpList_apdG okCs _ rfl rfl _ _ rfl (.slice (some ⟨w.heap.size, 0, none⟩) 0 0) [] rfl HE.out _ rfl l (HS.out.src okCs) (by simp) (by simp; omega) ?_; intro v' w1 o1 s1) | go_in)
    go_wp2_with fail
    go_ret
    have N0 : NewV w (.slice (some ⟨w.heap.size, 0, none⟩) 0 0) := fun k hk => by
      simp only [Value.ownBlock, Option.some.injEq] at hk
      omega
    obtain ⟨n1, f1⟩ := N0.step HF.out s1
    exact ⟨_, rfl, by simpa using o1, n1, f1⟩

theorem nil_eqFd (w : World) (n c : Nat) : (binOp .eql 66 (.slice none n c) (.slice none 0 0)).run Tryz.prog w = .ok (.bool true) w := by kernel_rfl
theorem some_eqFd (w : World) (a : Addr) (n c : Nat) : (binOp .eql 66 (.slice (some a) n c) (.slice none 0 0)).run Tryz.prog w = .ok (.bool false) w := by kernel_rfl

set_option maxRecDepth 100000 in
theorem cloneFd_any (w : World) (v : Value) (l : List Fd) (h : SlG elFd w v l) (hb : l.length ≤ 1000) :
    Calls Tryz.prog 85 #[v] w fun e w' => ∃ v', e = .returned v' ∧ OwnG elFd w' v' l ∧ NewV w v' ∧ Fr no w w' := by
  have hn := nil_eqFd
  have hsm := some_eqFd
  obtain ⟨o, cap, hv⟩ := h.form
  subst hv
  cases o with
  | none =>
    obtain rfl := h.none_nil
    clear h
    go_enter Tryz.func85, Tryz.ntmps85
    go_wp2_with fail
    go_ret
    exact ⟨_, rfl, OwnG.nil _ _, NewV.nil _, Fr.refl _ _⟩
  | some ad =>
    have HF : Hid (Fr no w (w.alloc (.cells #[] 100))) := (Fr.refl no w).alloc _ _
    have HS : Hid (SlG elFd (w.alloc (.cells #[] 100)) (.slice (some ad) l.length cap) l) := h.kept HF.out
    have HE : Hid (OwnG elFd (w.alloc (.cells #[] 100)) (.slice (some ⟨w.heap.size, 0, none⟩) 0 0) []) := own_empty w
    clear h
    generalize hln : l.length = n at *
    go_enter Tryz.func85, Tryz.ntmps85
    go_wp2_with (first | (at_builtin; refine wpList_apdG okFd _ rfl rfl _ _ rfl (.slice (some ⟨w.heap.size, 0, none⟩) 0 0) [] rfl HE.out _ rfl l (HS.out.src okFd) (by simp) (by simp; omega) ?_; intro v' w1 o1 s1) | go_in)
    go_wp2_with fail
    go_ret
    have N0 : NewV w (.slice (some ⟨w.heap.size, 0, none⟩) 0 0) := fun k hk => by
      simp only [Value.ownBlock, Option.some.injEq] at hk
      omega
    obtain ⟨n1, f1⟩ := N0.step HF.out s1
    exact ⟨_, rfl, by simpa using o1, n1, f1⟩

theorem nil_eqMs (w : World) (n c : Nat) : (binOp .eql 65 (.slice none n c) (.slice none 0 0)).run Tryz.prog w = .ok (.bool true) w := by kernel_rfl
theorem some_eqMs (w : World) (a : Addr) (n c : Nat) : (binOp .eql 65 (.slice (some a) n c) (.slice none 0 0)).run Tryz.prog w = .ok (.bool false) w := by kernel_rfl

set_option maxRecDepth 100000 in
theorem cloneMs_any (w : World) (v : Value) (l : List Ms) (h : SlG elMs w v l) (hb : l.length ≤ 1000) :
    Calls Tryz.prog 86 #[v] w fun e w' => ∃ v', e = .returned v' ∧ OwnG elMs w' v' l ∧ NewV w v' ∧ Fr no w w' := by
  have hn := nil_eqMs
  have hsm := some_eqMs
  obtain ⟨o, cap, hv⟩ := h.form
  subst hv
  cases o with
  | none =>
    obtain rfl := h.none_nil
    clear h
    go_enter Tryz.func86, Tryz.ntmps86
    go_wp2_with fail
    go_ret
    exact ⟨_, rfl, OwnG.nil _ _, NewV.nil _, Fr.refl _ _⟩
  | some ad =>
    have HF : Hid (Fr no w (w.alloc (.cells #[] 64))) := (Fr.refl no w).alloc _ _
    have HS : Hid (SlG elMs (w.alloc (.cells #[] 64)) (.slice (some ad) l.length cap) l) := h.kept HF.out
    have HE : Hid (OwnG elMs (w.alloc (.cells #[] 64)) (.slice (some ⟨w.heap.size, 0, none⟩) 0 0) []) := own_empty w
    clear h
    generalize hln : l.length = n at *
    go_enter Tryz.func86, Tryz.ntmps86
    go_wp2_with (first | (at_builtin; refine wpList_apdG okMs _ rfl rfl _ _ rfl (.slice (some ⟨w.heap.size, 0, none⟩) 0 0) [] rfl HE.out _ rfl l (HS.out.src okMs) (by simp) (by simp; omega) ?_; intro v' w1 o1 s1) | go_in)
    go_wp2_with fail
    go_ret
    have N0 : NewV w (.slice (some ⟨w.heap.size, 0, none⟩) 0 0) := fun k hk => by
      simp only [Value.ownBlock, Option.some.injEq] at hk
      omega
    obtain ⟨n1, f1⟩ := N0.step HF.out s1
    exact ⟨_, rfl, by simpa using o1, n1, f1⟩
end Go.Proofs.YtpfkigoffllieaaGreatDoor

/- What copies of a method and of a class hold. -/
namespace Go.Proofs.YtpfkigoffllieaaGreatDoor
open Go.ChangeShapes Go.WideShapes Go.ChangeAt Go.RowKit

theorem set_at {w : World} {p o : Nat} {u : Value} {cur : Array Value} {t : TypeId} (h : w.heap[p]? = some (.cells cur t (0, 0))) : (w.setCell ⟨p, o, none⟩ u).heap[p]? = some (.cells (cur.setIfInBounds o u) t (0, 0)) := by
  unfold World.setCell
  rw [Array.getElem?_modify, if_pos rfl, h]
  rfl

theorem frozen_at {w : World} {p o : Nat} {cur : Array Value} {t : TypeId} (h : w.heap[p]? = some (.cells cur t (0, 0))) : w.frozen? ⟨p, o, none⟩ = false := by
  unfold World.frozen?
  simp [h]

theorem cell_at {w : World} {p o : Nat} {cur : Array Value} {t : TypeId} (h : w.heap[p]? = some (.cells cur t (0, 0))) : w.cell? ⟨p, o, none⟩ = cur[o]? := by
  unfold World.cell?
  simp [h]

theorem chain2 {w : World} {p : Nat} {t : TypeId} {c0 c1 : Value} (h : w.heap[p]? = some (.cells #[c0, c1] t (0, 0))) (x0 x1 : Value) : ((w.setCell ⟨p, 0, none⟩ x0).setCell ⟨p, 1, none⟩ x1).heap[p]? = some (.cells #[x0, x1] t (0, 0)) := by
  have h0 : (w.setCell ⟨p, 0, none⟩ x0).heap[p]? = some (.cells #[x0, c1] t (0, 0)) := set_at h
  have h1 : ((w.setCell ⟨p, 0, none⟩ x0).setCell ⟨p, 1, none⟩ x1).heap[p]? = some (.cells #[x0, x1] t (0, 0)) := set_at h0
  exact h1
theorem frc2 (w : World) (p : Nat) (x0 x1 : Value) : Fr (fun k => k = p) w ((w.setCell ⟨p, 0, none⟩ x0).setCell ⟨p, 1, none⟩ x1) := ((Fr.refl (fun k => k = p) w).setCell (p := ⟨p, 0, none⟩) (fun _ => rfl) x0).setCell (p := ⟨p, 1, none⟩) (fun _ => rfl) x1

theorem chain5 {w : World} {p : Nat} {t : TypeId} {c0 c1 c2 c3 c4 : Value} (h : w.heap[p]? = some (.cells #[c0, c1, c2, c3, c4] t (0, 0))) (x0 x1 x2 x3 x4 : Value) : (((((w.setCell ⟨p, 0, none⟩ x0).setCell ⟨p, 1, none⟩ x1).setCell ⟨p, 2, none⟩ x2).setCell ⟨p, 3, none⟩ x3).setCell ⟨p, 4, none⟩ x4).heap[p]? = some (.cells #[x0, x1, x2, x3, x4] t (0, 0)) := by
  have h0 : (w.setCell ⟨p, 0, none⟩ x0).heap[p]? = some (.cells #[x0, c1, c2, c3, c4] t (0, 0)) := set_at h
  have h1 : ((w.setCell ⟨p, 0, none⟩ x0).setCell ⟨p, 1, none⟩ x1).heap[p]? = some (.cells #[x0, x1, c2, c3, c4] t (0, 0)) := set_at h0
  have h2 : (((w.setCell ⟨p, 0, none⟩ x0).setCell ⟨p, 1, none⟩ x1).setCell ⟨p, 2, none⟩ x2).heap[p]? = some (.cells #[x0, x1, x2, c3, c4] t (0, 0)) := set_at h1
  have h3 : ((((w.setCell ⟨p, 0, none⟩ x0).setCell ⟨p, 1, none⟩ x1).setCell ⟨p, 2, none⟩ x2).setCell ⟨p, 3, none⟩ x3).heap[p]? = some (.cells #[x0, x1, x2, x3, c4] t (0, 0)) := set_at h2
  have h4 : (((((w.setCell ⟨p, 0, none⟩ x0).setCell ⟨p, 1, none⟩ x1).setCell ⟨p, 2, none⟩ x2).setCell ⟨p, 3, none⟩ x3).setCell ⟨p, 4, none⟩ x4).heap[p]? = some (.cells #[x0, x1, x2, x3, x4] t (0, 0)) := set_at h3
  exact h4
theorem frc5 (w : World) (p : Nat) (x0 x1 x2 x3 x4 : Value) : Fr (fun k => k = p) w (((((w.setCell ⟨p, 0, none⟩ x0).setCell ⟨p, 1, none⟩ x1).setCell ⟨p, 2, none⟩ x2).setCell ⟨p, 3, none⟩ x3).setCell ⟨p, 4, none⟩ x4) := (((((Fr.refl (fun k => k = p) w).setCell (p := ⟨p, 0, none⟩) (fun _ => rfl) x0).setCell (p := ⟨p, 1, none⟩) (fun _ => rfl) x1).setCell (p := ⟨p, 2, none⟩) (fun _ => rfl) x2).setCell (p := ⟨p, 3, none⟩) (fun _ => rfl) x3).setCell (p := ⟨p, 4, none⟩) (fun _ => rfl) x4

theorem chain6 {w : World} {p : Nat} {t : TypeId} {c0 c1 c2 c3 c4 c5 : Value} (h : w.heap[p]? = some (.cells #[c0, c1, c2, c3, c4, c5] t (0, 0))) (x0 x1 x2 x3 x4 x5 : Value) : ((((((w.setCell ⟨p, 0, none⟩ x0).setCell ⟨p, 1, none⟩ x1).setCell ⟨p, 2, none⟩ x2).setCell ⟨p, 3, none⟩ x3).setCell ⟨p, 4, none⟩ x4).setCell ⟨p, 5, none⟩ x5).heap[p]? = some (.cells #[x0, x1, x2, x3, x4, x5] t (0, 0)) := by
  have h0 : (w.setCell ⟨p, 0, none⟩ x0).heap[p]? = some (.cells #[x0, c1, c2, c3, c4, c5] t (0, 0)) := set_at h
  have h1 : ((w.setCell ⟨p, 0, none⟩ x0).setCell ⟨p, 1, none⟩ x1).heap[p]? = some (.cells #[x0, x1, c2, c3, c4, c5] t (0, 0)) := set_at h0
  have h2 : (((w.setCell ⟨p, 0, none⟩ x0).setCell ⟨p, 1, none⟩ x1).setCell ⟨p, 2, none⟩ x2).heap[p]? = some (.cells #[x0, x1, x2, c3, c4, c5] t (0, 0)) := set_at h1
  have h3 : ((((w.setCell ⟨p, 0, none⟩ x0).setCell ⟨p, 1, none⟩ x1).setCell ⟨p, 2, none⟩ x2).setCell ⟨p, 3, none⟩ x3).heap[p]? = some (.cells #[x0, x1, x2, x3, c4, c5] t (0, 0)) := set_at h2
  have h4 : (((((w.setCell ⟨p, 0, none⟩ x0).setCell ⟨p, 1, none⟩ x1).setCell ⟨p, 2, none⟩ x2).setCell ⟨p, 3, none⟩ x3).setCell ⟨p, 4, none⟩ x4).heap[p]? = some (.cells #[x0, x1, x2, x3, x4, c5] t (0, 0)) := set_at h3
  have h5 : ((((((w.setCell ⟨p, 0, none⟩ x0).setCell ⟨p, 1, none⟩ x1).setCell ⟨p, 2, none⟩ x2).setCell ⟨p, 3, none⟩ x3).setCell ⟨p, 4, none⟩ x4).setCell ⟨p, 5, none⟩ x5).heap[p]? = some (.cells #[x0, x1, x2, x3, x4, x5] t (0, 0)) := set_at h4
  exact h5
theorem frc6 (w : World) (p : Nat) (x0 x1 x2 x3 x4 x5 : Value) : Fr (fun k => k = p) w ((((((w.setCell ⟨p, 0, none⟩ x0).setCell ⟨p, 1, none⟩ x1).setCell ⟨p, 2, none⟩ x2).setCell ⟨p, 3, none⟩ x3).setCell ⟨p, 4, none⟩ x4).setCell ⟨p, 5, none⟩ x5) := ((((((Fr.refl (fun k => k = p) w).setCell (p := ⟨p, 0, none⟩) (fun _ => rfl) x0).setCell (p := ⟨p, 1, none⟩) (fun _ => rfl) x1).setCell (p := ⟨p, 2, none⟩) (fun _ => rfl) x2).setCell (p := ⟨p, 3, none⟩) (fun _ => rfl) x3).setCell (p := ⟨p, 4, none⟩) (fun _ => rfl) x4).setCell (p := ⟨p, 5, none⟩) (fun _ => rfl) x5

theorem chain8 {w : World} {p : Nat} {t : TypeId} {c0 c1 c2 c3 c4 c5 c6 c7 : Value} (h : w.heap[p]? = some (.cells #[c0, c1, c2, c3, c4, c5, c6, c7] t (0, 0))) (x0 x1 x2 x3 x4 x5 x6 x7 : Value) : ((((((((w.setCell ⟨p, 0, none⟩ x0).setCell ⟨p, 1, none⟩ x1).setCell ⟨p, 2, none⟩ x2).setCell ⟨p, 3, none⟩ x3).setCell ⟨p, 4, none⟩ x4).setCell ⟨p, 5, none⟩ x5).setCell ⟨p, 6, none⟩ x6).setCell ⟨p, 7, none⟩ x7).heap[p]? = some (.cells #[x0, x1, x2, x3, x4, x5, x6, x7] t (0, 0)) := by
  have h0 : (w.setCell ⟨p, 0, none⟩ x0).heap[p]? = some (.cells #[x0, c1, c2, c3, c4, c5, c6, c7] t (0, 0)) := set_at h
  have h1 : ((w.setCell ⟨p, 0, none⟩ x0).setCell ⟨p, 1, none⟩ x1).heap[p]? = some (.cells #[x0, x1, c2, c3, c4, c5, c6, c7] t (0, 0)) := set_at h0
  have h2 : (((w.setCell ⟨p, 0, none⟩ x0).setCell ⟨p, 1, none⟩ x1).setCell ⟨p, 2, none⟩ x2).heap[p]? = some (.cells #[x0, x1, x2, c3, c4, c5, c6, c7] t (0, 0)) := set_at h1
  have h3 : ((((w.setCell ⟨p, 0, none⟩ x0).setCell ⟨p, 1, none⟩ x1).setCell ⟨p, 2, none⟩ x2).setCell ⟨p, 3, none⟩ x3).heap[p]? = some (.cells #[x0, x1, x2, x3, c4, c5, c6, c7] t (0, 0)) := set_at h2
  have h4 : (((((w.setCell ⟨p, 0, none⟩ x0).setCell ⟨p, 1, none⟩ x1).setCell ⟨p, 2, none⟩ x2).setCell ⟨p, 3, none⟩ x3).setCell ⟨p, 4, none⟩ x4).heap[p]? = some (.cells #[x0, x1, x2, x3, x4, c5, c6, c7] t (0, 0)) := set_at h3
  have h5 : ((((((w.setCell ⟨p, 0, none⟩ x0).setCell ⟨p, 1, none⟩ x1).setCell ⟨p, 2, none⟩ x2).setCell ⟨p, 3, none⟩ x3).setCell ⟨p, 4, none⟩ x4).setCell ⟨p, 5, none⟩ x5).heap[p]? = some (.cells #[x0, x1, x2, x3, x4, x5, c6, c7] t (0, 0)) := set_at h4
  have h6 : (((((((w.setCell ⟨p, 0, none⟩ x0).setCell ⟨p, 1, none⟩ x1).setCell ⟨p, 2, none⟩ x2).setCell ⟨p, 3, none⟩ x3).setCell ⟨p, 4, none⟩ x4).setCell ⟨p, 5, none⟩ x5).setCell ⟨p, 6, none⟩ x6).heap[p]? = some (.cells #[x0, x1, x2, x3, x4, x5, x6, c7] t (0, 0)) := set_at h5
  have h7 : ((((((((w.setCell ⟨p, 0, none⟩ x0).setCell ⟨p, 1, none⟩ x1).setCell ⟨p, 2, none⟩ x2).setCell ⟨p, 3, none⟩ x3).setCell ⟨p, 4, none⟩ x4).setCell ⟨p, 5, none⟩ x5).setCell ⟨p, 6, none⟩ x6).setCell ⟨p, 7, none⟩ x7).heap[p]? = some (.cells #[x0, x1, x2, x3, x4, x5, x6, x7] t (0, 0)) := set_at h6
  exact h7
theorem frc8 (w : World) (p : Nat) (x0 x1 x2 x3 x4 x5 x6 x7 : Value) : Fr (fun k => k = p) w ((((((((w.setCell ⟨p, 0, none⟩ x0).setCell ⟨p, 1, none⟩ x1).setCell ⟨p, 2, none⟩ x2).setCell ⟨p, 3, none⟩ x3).setCell ⟨p, 4, none⟩ x4).setCell ⟨p, 5, none⟩ x5).setCell ⟨p, 6, none⟩ x6).setCell ⟨p, 7, none⟩ x7) := ((((((((Fr.refl (fun k => k = p) w).setCell (p := ⟨p, 0, none⟩) (fun _ => rfl) x0).setCell (p := ⟨p, 1, none⟩) (fun _ => rfl) x1).setCell (p := ⟨p, 2, none⟩) (fun _ => rfl) x2).setCell (p := ⟨p, 3, none⟩) (fun _ => rfl) x3).setCell (p := ⟨p, 4, none⟩) (fun _ => rfl) x4).setCell (p := ⟨p, 5, none⟩) (fun _ => rfl) x5).setCell (p := ⟨p, 6, none⟩) (fun _ => rfl) x6).setCell (p := ⟨p, 7, none⟩) (fun _ => rfl) x7

theorem chain9 {w : World} {p : Nat} {t : TypeId} {c0 c1 c2 c3 c4 c5 c6 c7 c8 : Value} (h : w.heap[p]? = some (.cells #[c0, c1, c2, c3, c4, c5, c6, c7, c8] t (0, 0))) (x0 x1 x2 x3 x4 x5 x6 x7 x8 : Value) : (((((((((w.setCell ⟨p, 0, none⟩ x0).setCell ⟨p, 1, none⟩ x1).setCell ⟨p, 2, none⟩ x2).setCell ⟨p, 3, none⟩ x3).setCell ⟨p, 4, none⟩ x4).setCell ⟨p, 5, none⟩ x5).setCell ⟨p, 6, none⟩ x6).setCell ⟨p, 7, none⟩ x7).setCell ⟨p, 8, none⟩ x8).heap[p]? = some (.cells #[x0, x1, x2, x3, x4, x5, x6, x7, x8] t (0, 0)) := by
  have h0 : (w.setCell ⟨p, 0, none⟩ x0).heap[p]? = some (.cells #[x0, c1, c2, c3, c4, c5, c6, c7, c8] t (0, 0)) := set_at h
  have h1 : ((w.setCell ⟨p, 0, none⟩ x0).setCell ⟨p, 1, none⟩ x1).heap[p]? = some (.cells #[x0, x1, c2, c3, c4, c5, c6, c7, c8] t (0, 0)) := set_at h0
  have h2 : (((w.setCell ⟨p, 0, none⟩ x0).setCell ⟨p, 1, none⟩ x1).setCell ⟨p, 2, none⟩ x2).heap[p]? = some (.cells #[x0, x1, x2, c3, c4, c5, c6, c7, c8] t (0, 0)) := set_at h1
  have h3 : ((((w.setCell ⟨p, 0, none⟩ x0).setCell ⟨p, 1, none⟩ x1).setCell ⟨p, 2, none⟩ x2).setCell ⟨p, 3, none⟩ x3).heap[p]? = some (.cells #[x0, x1, x2, x3, c4, c5, c6, c7, c8] t (0, 0)) := set_at h2
  have h4 : (((((w.setCell ⟨p, 0, none⟩ x0).setCell ⟨p, 1, none⟩ x1).setCell ⟨p, 2, none⟩ x2).setCell ⟨p, 3, none⟩ x3).setCell ⟨p, 4, none⟩ x4).heap[p]? = some (.cells #[x0, x1, x2, x3, x4, c5, c6, c7, c8] t (0, 0)) := set_at h3
  have h5 : ((((((w.setCell ⟨p, 0, none⟩ x0).setCell ⟨p, 1, none⟩ x1).setCell ⟨p, 2, none⟩ x2).setCell ⟨p, 3, none⟩ x3).setCell ⟨p, 4, none⟩ x4).setCell ⟨p, 5, none⟩ x5).heap[p]? = some (.cells #[x0, x1, x2, x3, x4, x5, c6, c7, c8] t (0, 0)) := set_at h4
  have h6 : (((((((w.setCell ⟨p, 0, none⟩ x0).setCell ⟨p, 1, none⟩ x1).setCell ⟨p, 2, none⟩ x2).setCell ⟨p, 3, none⟩ x3).setCell ⟨p, 4, none⟩ x4).setCell ⟨p, 5, none⟩ x5).setCell ⟨p, 6, none⟩ x6).heap[p]? = some (.cells #[x0, x1, x2, x3, x4, x5, x6, c7, c8] t (0, 0)) := set_at h5
  have h7 : ((((((((w.setCell ⟨p, 0, none⟩ x0).setCell ⟨p, 1, none⟩ x1).setCell ⟨p, 2, none⟩ x2).setCell ⟨p, 3, none⟩ x3).setCell ⟨p, 4, none⟩ x4).setCell ⟨p, 5, none⟩ x5).setCell ⟨p, 6, none⟩ x6).setCell ⟨p, 7, none⟩ x7).heap[p]? = some (.cells #[x0, x1, x2, x3, x4, x5, x6, x7, c8] t (0, 0)) := set_at h6
  have h8 : (((((((((w.setCell ⟨p, 0, none⟩ x0).setCell ⟨p, 1, none⟩ x1).setCell ⟨p, 2, none⟩ x2).setCell ⟨p, 3, none⟩ x3).setCell ⟨p, 4, none⟩ x4).setCell ⟨p, 5, none⟩ x5).setCell ⟨p, 6, none⟩ x6).setCell ⟨p, 7, none⟩ x7).setCell ⟨p, 8, none⟩ x8).heap[p]? = some (.cells #[x0, x1, x2, x3, x4, x5, x6, x7, x8] t (0, 0)) := set_at h7
  exact h8
theorem frc9 (w : World) (p : Nat) (x0 x1 x2 x3 x4 x5 x6 x7 x8 : Value) : Fr (fun k => k = p) w (((((((((w.setCell ⟨p, 0, none⟩ x0).setCell ⟨p, 1, none⟩ x1).setCell ⟨p, 2, none⟩ x2).setCell ⟨p, 3, none⟩ x3).setCell ⟨p, 4, none⟩ x4).setCell ⟨p, 5, none⟩ x5).setCell ⟨p, 6, none⟩ x6).setCell ⟨p, 7, none⟩ x7).setCell ⟨p, 8, none⟩ x8) := (((((((((Fr.refl (fun k => k = p) w).setCell (p := ⟨p, 0, none⟩) (fun _ => rfl) x0).setCell (p := ⟨p, 1, none⟩) (fun _ => rfl) x1).setCell (p := ⟨p, 2, none⟩) (fun _ => rfl) x2).setCell (p := ⟨p, 3, none⟩) (fun _ => rfl) x3).setCell (p := ⟨p, 4, none⟩) (fun _ => rfl) x4).setCell (p := ⟨p, 5, none⟩) (fun _ => rfl) x5).setCell (p := ⟨p, 6, none⟩) (fun _ => rfl) x6).setCell (p := ⟨p, 7, none⟩) (fun _ => rfl) x7).setCell (p := ⟨p, 8, none⟩) (fun _ => rfl) x8

/-- Lists that a machine's bounds hold. -/
structure SmallM (m : Mt) : Prop where
  p : m.params.length ≤ 1000
  c : m.code.length ≤ 1000
  h : m.hands.length ≤ 1000
/-- The rows of a method are its own. -/
structure MtOwn (w : World) (s : Ms) (m : Mt) : Prop where
  name : s.name = m.name
  ret : s.ret = m.ret
  lo : s.lo = m.lo
  st : s.st = m.st
  p : OwnG elTy w (.slice s.p.a s.p.n s.p.c) m.params
  c : OwnG elIn w (.slice s.c.a s.c.n s.c.c) m.code
  h : OwnG elHd w (.slice s.h.a s.h.n s.h.c) m.hands

theorem MtOwn.at' {w : World} {s : Ms} {m : Mt} (h : MtOwn w s m) : MtAt w s m := ⟨h.name, h.ret, h.lo, h.st, h.p.sl okTy, (h.c.sl okIn).i, h.h.sl okHd⟩

/-- No block in S holds a class's rows. -/
def Apart (S : Nat → Prop) (w : World) : Prop := ∀ k, S k → ∀ cur e, w.heap[k]? = some (.cells cur e (0, 0)) → e ≠ 32 ∧ e ≠ 100 ∧ e ≠ 64 ∧ e ≠ 55 ∧ e ≠ 26 ∧ e ≠ 148

theorem Apart.no (w : World) : Apart no w := fun _ f => f.elim

def ApartM (S : Nat → Prop) (w : World) : Prop := ∀ k, S k → ∀ cur e, w.heap[k]? = some (.cells cur e (0, 0)) → e ≠ 55 ∧ e ≠ 26 ∧ e ≠ 148

theorem Apart.m {S : Nat → Prop} {w : World} (h : Apart S w) : ApartM S w := fun k hk cur e hc => (h k hk cur e hc).2.2.2

theorem MtOwn.kept {S : Nat → Prop} {w w' : World} {s : Ms} {m : Mt} (h : MtOwn w s m) (hf : Fr S w w') (hS : ApartM S w) : MtOwn w' s m := by
  refine ⟨h.name, h.ret, h.lo, h.st, h.p.kept hf (fun k hk hs => ?_), h.c.kept hf (fun k hk hs => ?_), h.h.kept hf (fun k hk hs => ?_)⟩
  · obtain ⟨cur, hc⟩ := h.p.tag hk
    exact (hS k hs cur _ hc).1 rfl
  · obtain ⟨cur, hc⟩ := h.c.tag hk
    exact (hS k hs cur _ hc).2.1 rfl
  · obtain ⟨cur, hc⟩ := h.h.tag hk
    exact (hS k hs cur _ hc).2.2 rfl

structure SmallC (c : Cl) : Prop where
  p : c.pool.length ≤ 1000
  f : c.fields.length ≤ 1000
  m : c.methods.length ≤ 1000
  ms : ∀ m ∈ c.methods, SmallM m

theorem results_26 (w : World) (r : Nat) (x0 x1 x2 x3 x4 x5 x6 x7 : Value) (h : w.heap[r]? = some (.cells #[x0, x1, x2, x3, x4, x5, x6, x7] 64 (0, 0))) (tmps : Array Value) (h2 : tmps.getD 2 undef = .pointer (some ⟨r, 0, none⟩)) :
    (results Tryz.f61 tmps).run Tryz.prog w = .ok (.agg #[x0, x1, x2, x3, x4, x5, x6, x7]) w := by
  have hl : (loadVar 64 ⟨r, 0, none⟩).run Tryz.prog w = .ok (.agg #[x0, x1, x2, x3, x4, x5, x6, x7]) w := run_loadVar_row (P := Tryz.prog) w r 64 64 #[x0, x1, x2, x3, x4, x5, x6, x7] (0, 0) _ h Tryz.underlying64 rfl (by kernel_rfl)
  have h2' : tmps[2]?.getD undef = .pointer (some ⟨r, 0, none⟩) := by simpa using h2
  simp [results, asAddr, h2', hl]

set_option maxRecDepth 100000 in
set_option maxHeartbeats 2000000 in
theorem copyMethod_any (w : World) (s : Ms) (m : Mt) (h : MtAt w s m) (hs : SmallM m) :
    Calls Tryz.prog 61 #[msV s] w fun e w' => ∃ s', e = .returned (msV s') ∧ MtOwn w' s' m ∧ Fr no w w' := by
  obtain ⟨sn, sp, sr, slo, sst, sc, sh⟩ := s
  obtain ⟨e1, e2, e3, e4, hp, hc, hh⟩ := h
  simp only [] at e1 e2 e3 e4 hp hc hh
  subst e1 e2 e3 e4
  unfold msV
  simp only []
  have HW : Hid (∃ W0, W0 = (w.alloc (.cells #[.string m.name, .slice sp.a sp.n sp.c, .int .i64 m.ret.k, .string m.ret.c, .int .i64 m.lo, .int .i64 m.st, .slice sc.a sc.n sc.c, .slice sh.a sh.n sh.c] 64)).alloc (.cells #[.string ⟨#[]⟩, .slice none 0 0, .int .i64 0, .string ⟨#[]⟩, .int .i64 0, .int .i64 0, .slice none 0 0, .slice none 0 0] 64)) := ⟨_, rfl⟩
  obtain ⟨W0, hW0⟩ := HW.out
  have F0 : Fr no w W0 := by rw [hW0]; exact ((Fr.refl no w).alloc _ _).alloc _ _
  have A0 : W0.heap[w.heap.size]? = some (.cells #[.string m.name, .slice sp.a sp.n sp.c, .int .i64 m.ret.k, .string m.ret.c, .int .i64 m.lo, .int .i64 m.st, .slice sc.a sc.n sc.c, .slice sh.a sh.n sh.c] 64 (0, 0)) := by
    rw [hW0]
    exact (Below.heap_alloc _ _ _ (by simp)).trans (heap_alloc_new w _)
  have B0 : W0.heap[w.heap.size + 1]? = some (.cells #[.string ⟨#[]⟩, .slice none 0 0, .int .i64 0, .string ⟨#[]⟩, .int .i64 0, .int .i64 0, .slice none 0 0, .slice none 0 0] 64 (0, 0)) := by
    rw [hW0]
    have : (w.alloc (.cells #[.string m.name, .slice sp.a sp.n sp.c, .int .i64 m.ret.k, .string m.ret.c, .int .i64 m.lo, .int .i64 m.st, .slice sc.a sc.n sc.c, .slice sh.a sh.n sh.c] 64)).heap.size = w.heap.size + 1 := by simp
    rw [← this]
    exact heap_alloc_new _ _
  have Z0 : W0.heap.size = w.heap.size + 1 + 1 := by rw [hW0]; simp
  have C1 := cloneTy_any W0 _ _ (hp.kept F0) hs.p
  have H2 : Hid (∀ x, Fr no w x → Calls Tryz.prog 101 #[.slice sc.a sc.n sc.c] x fun e w' => ∃ v', e = .returned v' ∧ OwnG elIn w' v' m.code ∧ NewV x v' ∧ Fr no x w') := fun x f => cloneIn_any x _ _ (hc.g.kept f) hs.c
  have H3 : Hid (∀ x, Fr no w x → Calls Tryz.prog 102 #[.slice sh.a sh.n sh.c] x fun e w' => ∃ v', e = .returned v' ∧ OwnG elHd w' v' m.hands ∧ NewV x v' ∧ Fr no x w') := fun x f => cloneHd_any x _ _ (hh.kept f) hs.h
  have hlt : w.heap.size < W0.heap.size := by omega
  have HZ : Hid (W0.heap.size = w.heap.size + 1 + 1) := Z0
  have HA : Hid (_ ∧ _) := ⟨A0, B0⟩
  have HF : Hid (Fr no w W0) := F0
  obtain ⟨a0, a1, a2, a3, a4, a5, a6, a7⟩ := box8 A0
  clear hp hc hh hs A0 B0 F0 Z0 HW
  generalize hmn : m.name = mn at *
  generalize hmr : m.ret = mr at *
  generalize hml : m.lo = ml at *
  generalize hmt : m.st = mt at *
  go_enter Tryz.func61, Tryz.ntmps61
  go_wp2_with fail
  rw [← hW0]
  go_wp2_with fail
  refine C1.mono ?_
  rintro e w1 ⟨v1, rfl, o1, n1, f1⟩
  obtain ⟨q1, c1, rfl⟩ := o1.form
  have F1 : Fr no w w1 := HF.out.new f1 (fun _ _ f => f)
  have A1 := f1.heap HA.out.1 (fun f => f)
  have B1 := f1.heap HA.out.2 (fun f => f)
  have fz1 := frozen_at (o := 1) A1
  clear a0 a1 a2 a3 a4 a5 a6 a7
  obtain ⟨a0, a1, a2, a3, a4, a5, a6, a7⟩ := box8 A1
  have D1 : Fr (fun k => k = w.heap.size) w1 (w1.setCell ⟨w.heap.size, 1, none⟩ (.slice q1 m.params.length c1)) := (Fr.refl (fun k => k = w.heap.size) w1).setCell (p := ⟨w.heap.size, 1, none⟩) (fun _ => rfl) _
  have A1' : (w1.setCell ⟨w.heap.size, 1, none⟩ (.slice q1 m.params.length c1)).heap[w.heap.size]? = some (.cells #[.string mn, .slice q1 m.params.length c1, .int .i64 mr.k, .string mr.c, .int .i64 ml, .int .i64 mt, .slice sc.a sc.n sc.c, .slice sh.a sh.n sh.c] 64 (0, 0)) := set_at A1
  have B1' := D1.heap B1 (by omega)
  have F1' : Fr no w (w1.setCell ⟨w.heap.size, 1, none⟩ (.slice q1 m.params.length c1)) := F1.new D1 (fun i hi e => by omega)
  have O1' := o1.kept D1 (fun k hk e => by have := n1 k hk; omega)
  have Z1 : w.heap.size + 1 + 1 ≤ w1.heap.size := by have := f1.size; have := HZ.out; omega
  have HK1 : Hid (_ ∧ _ ∧ _ ∧ _) := ⟨A1', B1', F1', O1'⟩
  clear A1' B1' F1' O1' A1 B1 F1 D1 o1 n1 f1
  go_wp2_with fail
  refine (H2.out _ HK1.out.2.2.1).mono ?_
  rintro e w2 ⟨v2, rfl, o2, n2, f2⟩
  obtain ⟨q2, c2, rfl⟩ := o2.form
  have F2 : Fr no w w2 := HK1.out.2.2.1.new f2 (fun _ _ f => f)
  have A2 := f2.heap HK1.out.1 (fun f => f)
  have B2 := f2.heap HK1.out.2.1 (fun f => f)
  have O12 := HK1.out.2.2.2.keep f2
  have Z2 : w.heap.size + 1 + 1 ≤ w2.heap.size := by have := f2.size; simp [World.setCell] at this; omega
  have fz2 := frozen_at (o := 6) A2
  clear a0 a1 a2 a3 a4 a5 a6 a7
  obtain ⟨a0, a1, a2, a3, a4, a5, a6, a7⟩ := box8 A2
  have D2 : Fr (fun k => k = w.heap.size) w2 (w2.setCell ⟨w.heap.size, 6, none⟩ (.slice q2 m.code.length c2)) := (Fr.refl (fun k => k = w.heap.size) w2).setCell (p := ⟨w.heap.size, 6, none⟩) (fun _ => rfl) _
  have A2' : (w2.setCell ⟨w.heap.size, 6, none⟩ (.slice q2 m.code.length c2)).heap[w.heap.size]? = some (.cells #[.string mn, .slice q1 m.params.length c1, .int .i64 mr.k, .string mr.c, .int .i64 ml, .int .i64 mt, .slice q2 m.code.length c2, .slice sh.a sh.n sh.c] 64 (0, 0)) := set_at A2
  have B2' := D2.heap B2 (by omega)
  have F2' : Fr no w (w2.setCell ⟨w.heap.size, 6, none⟩ (.slice q2 m.code.length c2)) := F2.new D2 (fun i hi e => by omega)
  have nq1 : ∀ k, (Value.slice q1 m.params.length c1).ownBlock = some k → ¬ k = w.heap.size := fun k hk e => by
    obtain ⟨cur, hc⟩ := O12.tag hk
    rw [e, A2] at hc
    simp [elTy] at hc
  have nq2 : ∀ k, (Value.slice q2 m.code.length c2).ownBlock = some k → ¬ k = w.heap.size := fun k hk e => by
    obtain ⟨cur, hc⟩ := o2.tag hk
    rw [e, A2] at hc
    simp [elIn] at hc
  have P12 := O12.kept D2 nq1
  have P22 := o2.kept D2 nq2
  have HK2 : Hid (_ ∧ _ ∧ _ ∧ _ ∧ _) := ⟨A2', B2', F2', P12, P22⟩
  clear A2' B2' F2' P12 P22 A2 B2 F2 D2 o2 n2 f2 nq1 nq2 O12 HK1
  go_wp2_with fail
  refine (H3.out _ HK2.out.2.2.1).mono ?_
  rintro e w3 ⟨v3, rfl, o3, n3, f3⟩
  obtain ⟨q3, c3, rfl⟩ := o3.form
  have F3 : Fr no w w3 := HK2.out.2.2.1.new f3 (fun _ _ f => f)
  have A3 := f3.heap HK2.out.1 (fun f => f)
  have B3 := f3.heap HK2.out.2.1 (fun f => f)
  have O13 := HK2.out.2.2.2.1.keep f3
  have O23 := HK2.out.2.2.2.2.keep f3
  have fz3 := frozen_at (o := 7) A3
  clear a0 a1 a2 a3 a4 a5 a6 a7
  have D3 : Fr (fun k => k = w.heap.size) w3 (w3.setCell ⟨w.heap.size, 7, none⟩ (.slice q3 m.hands.length c3)) := (Fr.refl (fun k => k = w.heap.size) w3).setCell (p := ⟨w.heap.size, 7, none⟩) (fun _ => rfl) _
  have A3' : (w3.setCell ⟨w.heap.size, 7, none⟩ (.slice q3 m.hands.length c3)).heap[w.heap.size]? = some (.cells #[.string mn, .slice q1 m.params.length c1, .int .i64 mr.k, .string mr.c, .int .i64 ml, .int .i64 mt, .slice q2 m.code.length c2, .slice q3 m.hands.length c3] 64 (0, 0)) := set_at A3
  have B3' := D3.heap B3 (by omega)
  have F3' : Fr no w (w3.setCell ⟨w.heap.size, 7, none⟩ (.slice q3 m.hands.length c3)) := F3.new D3 (fun i hi e => by omega)
  have nt : ∀ {α : Type} {K : El α} {v : Value} {l : List α}, OwnG K w3 v l → K.e ≠ 64 → ∀ k, v.ownBlock = some k → ¬ k = w.heap.size := fun h hK k hk e => by
    obtain ⟨cur, hc⟩ := h.tag hk
    rw [e, A3] at hc
    simp only [Option.some.injEq, Obj.cells.injEq] at hc
    exact hK hc.2.1.symm
  have P13 := O13.kept D3 (nt O13 (by decide))
  have P23 := O23.kept D3 (nt O23 (by decide))
  have P33 := o3.kept D3 (nt o3 (by decide))
  clear nt
  obtain ⟨y0, y1, y2, y3, y4, y5, y6, y7⟩ := box8 A3
  obtain ⟨a0, a1, a2, a3, a4, a5, a6, a7⟩ := box8 A3'
  obtain ⟨b0, b1, b2, b3, b4, b5, b6, b7⟩ := box8 B3'
  have fb := fun o => frozen_at (o := o) B3'
  have HK3 : Hid (_ ∧ _ ∧ _ ∧ _ ∧ _) := ⟨B3', F3', P13, P23, P33⟩
  clear A3' B3' F3' P13 P23 P33 A3 B3 F3 D3 o3 n3 f3 O13 O23 HK2
  generalize hV : w3.setCell ⟨w.heap.size, 7, none⟩ (.slice q3 m.hands.length c3) = V at *
  go_wp2_with fail
  refine bodyPost_ret (results_26 _ (w.heap.size + 1) _ _ _ _ _ _ _ _ (chain8 HK3.out.1 _ _ _ _ _ _ _ _) _ rfl) rfl ?_
  have FC := frc8 V (w.heap.size + 1) (.string mn) (.slice q1 m.params.length c1) (.int .i64 mr.k) (.string mr.c) (.int .i64 ml) (.int .i64 mt) (.slice q2 m.code.length c2) (.slice q3 m.hands.length c3)
  have nt : ∀ {α : Type} {K : El α} {v : Value} {l : List α}, OwnG K V v l → K.e ≠ 64 → ∀ k, v.ownBlock = some k → ¬ k = w.heap.size + 1 := fun h hK k hk e => by
    obtain ⟨cur, hc⟩ := h.tag hk
    rw [e, HK3.out.1] at hc
    simp only [Option.some.injEq, Obj.cells.injEq] at hc
    exact hK hc.2.1.symm
  exact ⟨⟨mn, ⟨q1, _, c1⟩, mr, ml, mt, ⟨q2, _, c2⟩, ⟨q3, _, c3⟩⟩, rfl, ⟨hmn.symm, hmr.symm, hml.symm, hmt.symm, HK3.out.2.2.1.kept FC (nt HK3.out.2.2.1 (by decide)), HK3.out.2.2.2.1.kept FC (nt HK3.out.2.2.2.1 (by decide)), HK3.out.2.2.2.2.kept FC (nt HK3.out.2.2.2.2 (by decide))⟩, HK3.out.2.1.new FC (fun i hi e => by omega)⟩
end Go.Proofs.YtpfkigoffllieaaGreatDoor
