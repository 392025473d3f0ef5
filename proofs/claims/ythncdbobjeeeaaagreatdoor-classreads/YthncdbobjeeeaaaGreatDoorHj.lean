/- The document's Decode: without memory; beside what it reads. -/
import Derived.Test.YthncdbobjeeeaaaGreatDoorHi
import Derived.Test.YthncdbobjeeeaaaGreatDoorHe
import Derived.Test.YthncdbobjeeeaaaGreatDoorGo
import Derived.Deep.RegionLaw
import Derived.BigRegion
import Derived.Deep.CutBlock
import Derived.Deep.DeepCutAuto
namespace Go.Proofs.YthncdbobjeeeaaaGreatDoor
open Go.ChangeShapes Go.WideShapes Go.ChangeAt Go.RowKit

theorem results_9 (w : World) (r : Nat) (x0 x1 x2 x3 x4 y : Value) (h : w.heap[r]? = some (.cells #[x0, x1, x2, x3, x4] 28 (0, 0))) (tmps : Array Value) (h2 : tmps.getD 2 undef = .pointer (some ⟨r, 0, none⟩)) (h3 : tmps.getD 3 undef = y) :
    (results Tryz.f9 tmps).run Tryz.prog w = .ok (.tuple #[.agg #[x0, x1, x2, x3, x4], y]) w := by
  have hl : (loadVar 28 ⟨r, 0, none⟩).run Tryz.prog w = .ok (.agg #[x0, x1, x2, x3, x4]) w := run_loadVar_row (P := Tryz.prog) w r 28 28 #[x0, x1, x2, x3, x4] (0, 0) _ h Tryz.underlying28 rfl (by kernel_rfl)
  have h2' : tmps[2]?.getD undef = .pointer (some ⟨r, 0, none⟩) := by simpa using h2
  have h3' : tmps[3]?.getD undef = y := by simpa using h3
  simp [results, asAddr, h2', h3', hl]


/-! ### The bytes of a class -/
theorem enTx_by (s : ByteArray) : ∀ x ∈ enTx s, x < 256 := bytes_append (bytes_enc _) (nl_lt s)
theorem enTy_by (t : Ty) (h : VTy t) : ∀ x ∈ enTy t, x < 256 := by
  intro x hx
  unfold enTy at hx
  have h1 := h.lo
  have h2 := h.hi
  rcases List.mem_cons.1 hx with rfl | hx
  · omega
  · split at hx
    · exact enTx_by _ x hx
    · simp at hx
theorem enCs_by' (c : Cs) (h : VCs c) : ∀ x ∈ enCs c, x < 256 := by
  intro x hx
  unfold enCs at hx
  have h1 := h.lo
  have h2 := h.hi
  rcases List.mem_cons.1 hx with rfl | hx
  · omega
  · revert hx
    split
    · exact bytes_enc _ x
    · split
      · exact bytes_append (le_byte _ _) (le_byte _ _) x
      · split
        · exact enTx_by _ x
        · split
          · exact bytes_append (enTx_by _) (enTx_by _) x
          · intro hc; simp at hc
theorem flat_by {α : Type} (f : α → List Nat) (l : List α) (h : ∀ a ∈ l, ∀ x ∈ f a, x < 256) : ∀ x ∈ l.flatMap f, x < 256 := by
  intro x hx
  obtain ⟨a, ha, hxa⟩ := List.mem_flatMap.1 hx
  exact h a ha x hxa
theorem enL_by {α : Type} (f : α → List Nat) (l : List α) (h : ∀ a ∈ l, ∀ x ∈ f a, x < 256) : ∀ x ∈ enL f l, x < 256 := bytes_append (bytes_enc _) (flat_by f l h)
theorem enMt_by (m : Mt) (h : VMt m) : ∀ x ∈ enMt m, x < 256 := by
  have hp : ∀ x ∈ ptB m.code, x < 256 := by
    have e : ptB m.code = enc m.code.length ++ wri m.code := by unfold ptB; rw [if_pos ⟨h.cl, h.code⟩]
    rw [e]
    exact put_byte m.code h.code
  unfold enMt
  exact bytes_append (enTx_by _) (bytes_append (enL_by _ _ (fun t ht => enTy_by t (h.params t ht))) (bytes_append (enTy_by _ h.ret) (bytes_append (bytes_enc _) (bytes_append (bytes_enc _) (bytes_append (bytes_append (bytes_enc _) hp) (enL_by _ _ (fun x _ => by
    unfold enHd
    exact bytes_append (bytes_enc _) (bytes_append (bytes_enc _) (bytes_append (bytes_enc _) (bytes_append (bytes_enc _) (bytes_enc _))))))))))) 
theorem enFd_by (f : Fd) (h : VFd f) : ∀ x ∈ enFd f, x < 256 := by
  unfold enFd
  refine bytes_append (enTx_by _) (bytes_append (enTy_by _ h.ty) ?_)
  intro x hx
  simp only [List.mem_singleton] at hx
  subst hx
  split <;> omega
theorem enCl_by (c : Cl) (h : VCl c) : ∀ x ∈ enCl c, x < 256 := by
  unfold enCl
  exact bytes_append (by decide) (bytes_append (enTx_by _) (bytes_append (enTx_by _) (bytes_append (enL_by _ _ (fun x hx => enCs_by' x (h.pool x hx))) (bytes_append (enL_by _ _ (fun x hx => enFd_by x (h.fields x hx))) (enL_by _ _ (fun x hx => enMt_by x (h.methods x hx)))))))

/-- There is a class of which these are the bytes. -/
def isCls (b : List Nat) (c : Cl) : Prop := chk c = 0 ∧ FitK c ∧ enCl c = b ∧ b.length ≤ 20000
theorem cls_mark {b : List Nat} {c : Cl} (h : isCls b c) : b = [76, 79, 79, 77, 1] ++ enBody c := by rw [← h.2.2.1]; rfl
theorem cls_read {b : List Nat} {c : Cl} (h : isCls b c) : dCl (b.drop 5, false) = (c, ([], false)) := by
  have e := cls_mark h
  have e2 : b.drop 5 = enBody c ++ [] := by rw [e, List.append_nil]; rfl
  rw [e2]
  exact dCl_c c [] (vcl c h.1) h.2.1
theorem cls_of {b : List Nat} {c : Cl} (hf : FitK c) (he : ecE c = 0) (hb : ecB c = b) : isCls b c := by
  unfold ecE at he
  by_cases h0 : chk c = 0
  · rw [if_pos h0] at he
    by_cases h1 : 20000 < (enCl c).length
    · rw [if_pos h1] at he; simp at he
    · have : ecB c = enCl c := by unfold ecB; rw [if_pos ⟨h0, by omega⟩]
      rw [this] at hb
      exact ⟨h0, hf, hb, by rw [← hb]; omega⟩
  · rw [if_neg h0] at he; exact absurd he h0
theorem cls_ec {b : List Nat} {c : Cl} (h : isCls b c) : ecE c = 0 ∧ ecB c = b := by
  have hl : ¬ 20000 < (enCl c).length := by have := h.2.2.2; rw [← h.2.2.1] at this; omega
  exact ⟨by unfold ecE; rw [if_pos h.1, if_neg hl], by unfold ecB; rw [if_pos ⟨h.1, by omega⟩]; exact h.2.2.1⟩
theorem bstr_inj {a b : List Nat} (ha : ∀ x ∈ a, x < 256) (hb : ∀ x ∈ b, x < 256) (h : bstr a = bstr b) : a = b := by rw [← nl_bstr a ha, ← nl_bstr b hb, h]
theorem ecB_by (c : Cl) : ∀ x ∈ ecB c, x < 256 := by
  unfold ecB
  split
  · rename_i h
    exact enCl_by c (vcl c h.1)
  · intro x hx; simp at hx

/-! ### Methods' rows beside other memory -/
section
variable {w w' : World} {ls : List Ms} {l : List Mt} {p q A : Nat} {s : Sb} {v v' : Value}
def apart3 (t : TypeId) : Prop := t ≠ 46 ∧ t ≠ 57 ∧ t ≠ 59
theorem OwnAll.setB (h : OwnAll w ls l) {cur : Array Value} {t : TypeId} (hA : w.heap[A]? = some (.cells cur t (0, 0))) (ht : apart3 t) (j : Nat) (x : Value) : OwnAll (w.setCell ⟨A, j, none⟩ x) ls l :=
  h.but (fr_one w A j x) (fun k hk cur' t' fz hc => by subst hk; rw [hA] at hc; simp only [Option.some.injEq, Obj.cells.injEq] at hc; rw [← hc.2.1]; exact ht)
theorem OwnAll.readB (h : OwnAll w ls l) (d : DS w p q s) (f : Fr (PQ p q) w w') : OwnAll w' ls l :=
  h.but f (fun k hk cur t fz hc => by rcases d.tag k hk cur t fz hc with rfl | rfl <;> decide)
theorem OwnAll.newB (h : OwnAll w ls l) (f : Fr no w w') : OwnAll w' ls l := h.but f (fun _ hk => hk.elim)
theorem OwnAll.rowB {α : Type} {K : El α} {m : List α} (h : OwnAll w ls l) (o : OwnG K w v m) (ht : apart3 K.e) (sp : Sp no v w v' w') : OwnAll w' ls l :=
  h.but sp.1 (fun k hk cur t fz hc => by
    rcases hk with hk | hk
    · exact hk.elim
    · obtain ⟨cur', e⟩ := o.tag hk
      rw [e] at hc
      simp only [Option.some.injEq, Obj.cells.injEq] at hc
      rw [← hc.2.1]
      exact ht)
theorem MtOwn.newB {y : Ms} {m : Mt} (h : MtOwn w y m) (f : Fr no w w') : MtOwn w' y m := h.but f (fun _ hk => hk.elim)
theorem MtOwn.rowB {α : Type} {K : El α} {ms : List α} {y : Ms} {m : Mt} (h : MtOwn w y m) (o : OwnG K w v ms) (ht : apart3 K.e) (sp : Sp no v w v' w') : MtOwn w' y m :=
  h.but sp.1 (fun k hk cur t fz hc => by
    rcases hk with hk | hk
    · exact hk.elim
    · obtain ⟨cur', e⟩ := o.tag hk
      rw [e] at hc
      simp only [Option.some.injEq, Obj.cells.injEq] at hc
      rw [← hc.2.1]
      exact ht)
end
theorem z28 : ∀ u ∈ (#[.string ⟨#[]⟩, .string ⟨#[]⟩, .slice none 0 0, .slice none 0 0, .slice none 0 0] : Array Value).toList, nob u := nobs5 (nob_str _) (nob_str _) (nob_sl _ _ _) (nob_sl _ _ _) (nob_sl _ _ _)
end Go.Proofs.YthncdbobjeeeaaaGreatDoor

/- The document's Decode. -/
namespace Go.Proofs.YthncdbobjeeeaaaGreatDoor
open Go.ChangeShapes Go.WideShapes Go.ChangeAt Go.RowKit

def NoCls (b : List Nat) : Prop := ∀ c, ¬ isCls b c
/-- What Decode has told. -/
def Told (w w' : World) (b : List Nat) (y : Ks) (ok : Bool) : Prop := Fr no w w' ∧ (ok = true → ∃ c, ClAt w' y c ∧ isCls b c) ∧ (ok = false → NoCls b)
def ToldE (w : World) (b : List Nat) (e : Ending) (w' : World) : Prop := ∃ (y : Ks) (ok : Bool), e = .returned (.tuple #[ksV y, .bool ok]) ∧ Told w w' b y ok
theorem told_mk {w : World} {b : List Nat} {e : Ending} {w' : World} (y : Ks) (ok : Bool) (he : e = .returned (.tuple #[ksV y, .bool ok])) (h : Told w w' b y ok) : ToldE w b e w' := ⟨y, ok, he, h⟩

set_option maxRecDepth 100000 in
set_option maxHeartbeats 16000000 in
theorem docDecode_any (w : World) (v : Value) (b : List Nat) (h : Sl w v b) (hl : ∀ c ∈ b, c < 256) (hb : b.length ≤ 1099511627776) :
    Calls Tryz.prog 9 #[v] w fun e w' => ToldE w b e w' := by
  have HF0 : Hid (Fr no w (w.alloc (.cells #[.string ⟨#[]⟩, .string ⟨#[]⟩, .slice none 0 0, .slice none 0 0, .slice none 0 0] 28))) := (Fr.refl no w).alloc _ _
  have HB0 : Hid ((w.alloc (.cells #[.string ⟨#[]⟩, .string ⟨#[]⟩, .slice none 0 0, .slice none 0 0, .slice none 0 0] 28)).heap[w.heap.size]? = some (.cells #[.string ⟨#[]⟩, .string ⟨#[]⟩, .slice none 0 0, .slice none 0 0, .slice none 0 0] 28 (0, 0))) := heap_alloc_new w _
  have HS0 : Hid ((w.alloc (.cells #[.string ⟨#[]⟩, .string ⟨#[]⟩, .slice none 0 0, .slice none 0 0, .slice none 0 0] 28)).heap.size = w.heap.size + 1) := size_alloc _ _
  generalize hQR : w.heap.size = R at *
  have HQR : Hid (w.heap.size = R) := hQR
  by_cases h5 : b.length < 5
  · obtain ⟨o, cap, rfl, -⟩ := h.shape
    have h5' : (b.length : Int) < 5 := by omega
    have HN : Hid (NoCls b) := fun c hc => by
      have := cls_mark hc
      rw [this] at h5
      simp at h5
      omega
    clear h5 h
    go_enter Tryz.func9, Tryz.ntmps9
    go_wp2_with fail
    refine bodyPost_ret (results_9 (w.alloc (.cells #[.string ⟨#[]⟩, .string ⟨#[]⟩, .slice none 0 0, .slice none 0 0, .slice none 0 0] 28)) R _ _ _ _ _ _ HB0.out _ rfl rfl) rfl ?_
    exact told_mk zKs false rfl ⟨HF0.out, fun e => by simp at e, fun _ => HN.out⟩
  have h5' : ¬ (b.length : Int) < 5 := by omega
  by_cases h20 : 20000 < b.length
  · obtain ⟨o, cap, rfl, -⟩ := h.shape
    have h20' : 20000 < (b.length : Int) := by omega
    have HN : Hid (NoCls b) := fun c hc => by have := hc.2.2.2; omega
    clear h20 h
    go_enter Tryz.func9, Tryz.ntmps9
    go_wp2_with fail
    refine bodyPost_ret (results_9 (w.alloc (.cells #[.string ⟨#[]⟩, .string ⟨#[]⟩, .slice none 0 0, .slice none 0 0, .slice none 0 0] 28)) R _ _ _ _ _ _ HB0.out _ rfl rfl) rfl ?_
    exact told_mk zKs false rfl ⟨HF0.out, fun e => by simp at e, fun _ => HN.out⟩
  have h20' : ¬ 20000 < (b.length : Int) := by omega
  rcases h with ⟨qb, qoff, cap, rfl, g2, g3, g4⟩ | ⟨rfl, _⟩
  case inr => simp at h5
  have g4' : ∀ (i c : Nat), b[i]? = some c → (w.alloc (.cells #[.string ⟨#[]⟩, .string ⟨#[]⟩, .slice none 0 0, .slice none 0 0, .slice none 0 0] 28)).cell? ⟨qb, qoff + i, none⟩ = some (.int .u8 (c : Int)) := fun i c hi => HF0.out.cell (g4 i c hi) (fun f => f)
  have hcv := conv_text _ qb qoff 5 cap b (by omega) g4'
  have hcap5 : (5 : Int) ≤ (cap : Int) := by omega
  unfold maxLen at g3
  by_cases hmk : b.take 5 = [76, 79, 79, 77, 1]
  case neg =>
    have hne : bstr (b.take 5) ≠ (⟨#[76, 79, 79, 77, 1]⟩ : ByteArray) := fun e => hmk (bstr_inj (fun x hx => hl x (List.mem_of_mem_take hx)) (b := [76, 79, 79, 77, 1]) (by decide) (by rw [e]; rfl))
    have hq := text_ne hne
    have hq1 : ¬ (bstr (b.take 5)).toList = [76, 79, 79, 77, 1] := fun e => by rw [e] at hq; simp [ByteArray.toList_eq] at hq
    have hq2 : ((bstr (b.take 5)).toList == [76, 79, 79, 77, 1]) = false := by simpa using hq1
    have HN : Hid (NoCls b) := fun c hc => hmk (by rw [cls_mark hc]; rfl)
    generalize bstr (b.take 5) = sk at *
    clear hmk hne g4 g4'
    go_enter Tryz.func9, Tryz.ntmps9
    go_wp2_with fail
    refine bodyPost_ret (results_9 (w.alloc (.cells #[.string ⟨#[]⟩, .string ⟨#[]⟩, .slice none 0 0, .slice none 0 0, .slice none 0 0] 28)) R _ _ _ _ _ _ HB0.out _ rfl rfl) rfl ?_
    exact told_mk zKs false rfl ⟨HF0.out, fun e => by simp at e, fun _ => HN.out⟩
  have hq : bstr (b.take 5) = (⟨#[76, 79, 79, 77, 1]⟩ : ByteArray) := by rw [hmk]; rfl
  rw [hq] at hcv
  clear hq hmk
  have HG4 : Hid (∀ (i c : Nat), b[i]? = some c → w.cell? ⟨qb, qoff + i, none⟩ = some (.int .u8 (c : Int))) := g4
  obtain ⟨off5, R1, R2, S5⟩ : ∃ off5, (∀ W, (Instr.slice 22 (.slice (some ⟨qb, qoff, none⟩) b.length cap) (some (.int .i64 5)) none none).run Tryz.prog W = .ok (.slice (some ⟨qb, off5, none⟩) (b.length - 5) (cap - 5)) W) ∧ (∀ W, (Instr.sliceAt 22 (.slice (some ⟨qb, qoff, none⟩) b.length cap) (some (.int .i64 5)) none none).run Tryz.prog W = .ok (.slice (some ⟨qb, off5, none⟩) (b.length - 5) (cap - 5)) W) ∧ Sl w (.slice (some ⟨qb, off5, none⟩) (b.length - 5) (cap - 5)) (b.drop 5) := by
    have key : ∀ off5, (cap ≠ 5 → off5 = qoff + 5) → Sl w (.slice (some ⟨qb, off5, none⟩) (b.length - 5) (cap - 5)) (b.drop 5) := fun off5 ho => .inl ⟨qb, off5, cap - 5, by rw [List.length_drop], by rw [List.length_drop]; omega, by unfold maxLen; omega, fun i c hi => by
      rw [List.getElem?_drop] at hi
      have := (List.getElem?_eq_some_iff.1 hi).1
      rw [ho (by omega), show qoff + 5 + i = qoff + (5 + i) by omega]
      exact g4 _ _ hi⟩
    by_cases hc : cap = 5
    · exact ⟨qoff, fun W => run_fromc W qb qoff b.length cap 5 (by omega) hc, fun W => run_fromc' W qb qoff b.length cap 5 (by omega) hc, key qoff (fun e => absurd hc e)⟩
    · exact ⟨qoff + 5, fun W => run_fromk W qb qoff b.length cap 5 (by omega) hc, fun W => run_fromk' W qb qoff b.length cap 5 (by omega) hc, key (qoff + 5) (fun _ => rfl)⟩
  have HCR : Hid (∀ c, isCls b c → dCl (b.drop 5, false) = (c, ([], false))) := fun c hc => cls_read hc
  have HDL : Hid (∀ c ∈ b.drop 5, c < 256) := by_drop hl 5
  have hdl : (b.drop 5).length ≤ 1099511627776 := by rw [List.length_drop]; omega
  clear g4 g4'
  have b1 := heap_alloc_new (w.alloc (.cells #[.string ⟨#[]⟩, .string ⟨#[]⟩, .slice none 0 0, .slice none 0 0, .slice none 0 0] 28)) (.cells #[.slice (some ⟨qb, off5, none⟩) (b.length - 5) (cap - 5)] 78)
  have s1 := size_alloc (w.alloc (.cells #[.string ⟨#[]⟩, .string ⟨#[]⟩, .slice none 0 0, .slice none 0 0, .slice none 0 0] 28)) (.cells #[.slice (some ⟨qb, off5, none⟩) (b.length - 5) (cap - 5)] 78)
  have f1 : Fr no (w.alloc (.cells #[.string ⟨#[]⟩, .string ⟨#[]⟩, .slice none 0 0, .slice none 0 0, .slice none 0 0] 28)) ((w.alloc (.cells #[.string ⟨#[]⟩, .string ⟨#[]⟩, .slice none 0 0, .slice none 0 0, .slice none 0 0] 28)).alloc (.cells #[.slice (some ⟨qb, off5, none⟩) (b.length - 5) (cap - 5)] 78)) := (Fr.refl no _).alloc _ _
  rw [HS0.out] at b1 s1
  have b2 := heap_alloc_new ((w.alloc (.cells #[.string ⟨#[]⟩, .string ⟨#[]⟩, .slice none 0 0, .slice none 0 0, .slice none 0 0] 28)).alloc (.cells #[.slice (some ⟨qb, off5, none⟩) (b.length - 5) (cap - 5)] 78)) (.cells #[.pointer (some ⟨R + 1, 0, none⟩), .bool false] 80)
  have f2 : Fr no ((w.alloc (.cells #[.string ⟨#[]⟩, .string ⟨#[]⟩, .slice none 0 0, .slice none 0 0, .slice none 0 0] 28)).alloc (.cells #[.slice (some ⟨qb, off5, none⟩) (b.length - 5) (cap - 5)] 78)) (((w.alloc (.cells #[.string ⟨#[]⟩, .string ⟨#[]⟩, .slice none 0 0, .slice none 0 0, .slice none 0 0] 28)).alloc (.cells #[.slice (some ⟨qb, off5, none⟩) (b.length - 5) (cap - 5)] 78)).alloc (.cells #[.pointer (some ⟨R + 1, 0, none⟩), .bool false] 80)) := (Fr.refl no _).alloc _ _
  have s2 := size_alloc ((w.alloc (.cells #[.string ⟨#[]⟩, .string ⟨#[]⟩, .slice none 0 0, .slice none 0 0, .slice none 0 0] 28)).alloc (.cells #[.slice (some ⟨qb, off5, none⟩) (b.length - 5) (cap - 5)] 78)) (.cells #[.pointer (some ⟨R + 1, 0, none⟩), .bool false] 80)
  rw [s1] at b2 s2
  have hwB : Fr no w (((w.alloc (.cells #[.string ⟨#[]⟩, .string ⟨#[]⟩, .slice none 0 0, .slice none 0 0, .slice none 0 0] 28)).alloc (.cells #[.slice (some ⟨qb, off5, none⟩) (b.length - 5) (cap - 5)] 78)).alloc (.cells #[.pointer (some ⟨R + 1, 0, none⟩), .bool false] 80)) := (HF0.out.new f1 (fun _ _ f => f)).new f2 (fun _ _ f => f)
  have ds : DS (((w.alloc (.cells #[.string ⟨#[]⟩, .string ⟨#[]⟩, .slice none 0 0, .slice none 0 0, .slice none 0 0] 28)).alloc (.cells #[.slice (some ⟨qb, off5, none⟩) (b.length - 5) (cap - 5)] 78)).alloc (.cells #[.pointer (some ⟨R + 1, 0, none⟩), .bool false] 80)) (R + 1 + 1) (R + 1) (b.drop 5, false) :=
    ⟨b2, ⟨_, f2.heap b1 (fun f => f), S5.kept hwB (fun _ _ _ f => f)⟩, HDL.out, hdl⟩
  have hRB := f2.heap (f1.heap HB0.out (fun f => f)) (fun f => f)
  have K1 := dText_any _ _ _ _ ds
  have HWB : Hid (_ ∧ _ ∧ _) := ⟨hwB, hRB, s2⟩
  clear b1 s1 f1 b2 f2 s2 hwB hRB S5
  have HDC : Hid (dCl (b.drop 5, false) = (⟨(dX 20 (b.drop 5, false)).1, (dX 20 (dX 20 (b.drop 5, false)).2).1, (dLoop dCs (dN 128 (dX 20 (dX 20 (b.drop 5, false)).2).2).1 [] (dN 128 (dX 20 (dX 20 (b.drop 5, false)).2).2).2).1, (dLoop dFd (dN 8 (dLoop dCs (dN 128 (dX 20 (dX 20 (b.drop 5, false)).2).2).1 [] (dN 128 (dX 20 (dX 20 (b.drop 5, false)).2).2).2).2).1 [] (dN 8 (dLoop dCs (dN 128 (dX 20 (dX 20 (b.drop 5, false)).2).2).1 [] (dN 128 (dX 20 (dX 20 (b.drop 5, false)).2).2).2).2).2).1, (dLoop dMt (dN 12 (dLoop dFd (dN 8 (dLoop dCs (dN 128 (dX 20 (dX 20 (b.drop 5, false)).2).2).1 [] (dN 128 (dX 20 (dX 20 (b.drop 5, false)).2).2).2).2).1 [] (dN 8 (dLoop dCs (dN 128 (dX 20 (dX 20 (b.drop 5, false)).2).2).1 [] (dN 128 (dX 20 (dX 20 (b.drop 5, false)).2).2).2).2).2).2).1 [] (dN 12 (dLoop dFd (dN 8 (dLoop dCs (dN 128 (dX 20 (dX 20 (b.drop 5, false)).2).2).1 [] (dN 128 (dX 20 (dX 20 (b.drop 5, false)).2).2).2).2).1 [] (dN 8 (dLoop dCs (dN 128 (dX 20 (dX 20 (b.drop 5, false)).2).2).1 [] (dN 128 (dX 20 (dX 20 (b.drop 5, false)).2).2).2).2).2).2).2).1⟩, (dLoop dMt (dN 12 (dLoop dFd (dN 8 (dLoop dCs (dN 128 (dX 20 (dX 20 (b.drop 5, false)).2).2).1 [] (dN 128 (dX 20 (dX 20 (b.drop 5, false)).2).2).2).2).1 [] (dN 8 (dLoop dCs (dN 128 (dX 20 (dX 20 (b.drop 5, false)).2).2).1 [] (dN 128 (dX 20 (dX 20 (b.drop 5, false)).2).2).2).2).2).2).1 [] (dN 12 (dLoop dFd (dN 8 (dLoop dCs (dN 128 (dX 20 (dX 20 (b.drop 5, false)).2).2).1 [] (dN 128 (dX 20 (dX 20 (b.drop 5, false)).2).2).2).2).1 [] (dN 8 (dLoop dCs (dN 128 (dX 20 (dX 20 (b.drop 5, false)).2).2).1 [] (dN 128 (dX 20 (dX 20 (b.drop 5, false)).2).2).2).2).2).2).2).2)) := rfl
  generalize dCl (b.drop 5, false) = D at *
  have hfn := dX_fit (b.drop 5, false) HDL.out
  generalize dX 20 (b.drop 5, false) = t1 at *
  obtain ⟨nm, s1⟩ := t1
  simp only [] at K1 HDC hfn
  go_enter Tryz.func9, Tryz.ntmps9
  go_wp2_with fail
  refine K1.mono ?_
  rintro x w1 ⟨rfl, r1, f1⟩
  generalize hWB : (((w.alloc (.cells #[.string ⟨#[]⟩, .string ⟨#[]⟩, .slice none 0 0, .slice none 0 0, .slice none 0 0] 28)).alloc (.cells #[.slice (some ⟨qb, off5, none⟩) (b.length - 5) (cap - 5)] 78)).alloc (.cells #[.pointer (some ⟨R + 1, 0, none⟩), .bool false] 80)) = wB at *
  clear hWB K1 ds hcv R1 R2
  have HPQ : Hid (R + 1 + 1 < wB.heap.size ∧ R + 1 < wB.heap.size ∧ R < wB.heap.size) := by have := HWB.out.2.2; show _ ∧ _; omega
  generalize hP : R + 1 + 1 = p at *
  generalize hQ : R + 1 = q at *
  have HPQ2 : Hid (R ≠ p ∧ R ≠ q ∧ R < p ∧ R < q) := by show _ ∧ _; omega
  clear hP hQ
  have fA : Fr no w1 (w1.alloc (.cells #[.string nm, .string ⟨#[]⟩, .slice none 0 0, .slice none 0 0, .slice none 0 0] 28)) := (Fr.refl no w1).alloc _ _
  have hA := heap_alloc_new w1 (.cells #[.string nm, .string ⟨#[]⟩, .slice none 0 0, .slice none 0 0, .slice none 0 0] 28)
  have K2 := dText_any _ p q s1 (r1.new fA)
  have hfs := dX_fit s1 r1.by_
  generalize dX 20 s1 = t2 at *
  obtain ⟨su, s2⟩ := t2
  simp only [] at K2 HDC hfs
  go_wp2_with fail
  refine K2.mono ?_
  rintro x w2 ⟨rfl, r2, f2⟩
  have ms : MS wB 28 p q R w1.heap.size #[.string ⟨#[]⟩, .string ⟨#[]⟩, .slice none 0 0, .slice none 0 0, .slice none 0 0] #[.string nm, .string ⟨#[]⟩, .slice none 0 0, .slice none 0 0, .slice none 0 0] s2 w2 := by
    have g1 := f1.size
    have g0 := HPQ.out
    have g2 := HPQ2.out
    have hR1 := f1.heap HWB.out.2.1 (fun e => e.elim (fun e => g2.1 e) (fun e => g2.2.1 e))
    exact ⟨r2, (f1.trans fA (fun _ _ e => e) (fun _ _ f => f.elim)).trans f2 (fun _ _ e => e) (fun _ _ e => e),
      f2.heap (fA.heap hR1 (fun f => f)) (fun e => e.elim (fun e => g2.1 e) (fun e => g2.2.1 e)), f2.heap hA (fun e => e.elim (fun e => by omega) (fun e => by omega)), ⟨g2.1, g2.2.1⟩, by omega, by omega, g0.1, g0.2.1,
      nobs5 (nob_str _) (nob_str _) (nob_sl _ _ _) (nob_sl _ _ _) (nob_sl _ _ _)⟩
  clear K2 r1 f1 r2 f2 fA hA
  generalize hQM : w1.heap.size = M at *
  clear hQM
  obtain ⟨⟨c0, c1, c2, c3, c4⟩, z0, z1, z2, z3, z4⟩ := cells5z ms.hM
  have msA : MS wB 28 p q R M #[.string ⟨#[]⟩, .string ⟨#[]⟩, .slice none 0 0, .slice none 0 0, .slice none 0 0] #[.string nm, .string su, .slice none 0 0, .slice none 0 0, .slice none 0 0] s2 (w2.setCell ⟨M, 1, none⟩ (.string su)) := ms.set 1 _ (nob_str _)
  have K3 := dNum_any _ p q s2 msA.ds 128 (by omega) (by omega)
  have hn1 := dN_fit 128 s2
  have hn1 : (dN 128 s2).1 ≤ 128 := hn1
  generalize dN 128 s2 = t3 at *
  obtain ⟨n1, s3⟩ := t3
  simp only [] at K3 HDC hn1
  have HMA : Hid (_) := msA
  clear ms msA
  go_wp2_with fail
  refine K3.mono ?_
  rintro x w3 ⟨rfl, r3, f3⟩
  have ms3 := HMA.out.read r3 f3
  have HM3 : Hid (_) := ms3
  clear K3 HMA ms3 r3 f3
  clear c0 c1 c2 c3 c4 z0 z1 z2 z3 z4
  go_upto_block 0 with fail
  go_cut [7] (fun i wc => ∃ (acc : List Cs) (st : Sb) (pv : Sv), MS wB 28 p q R M #[.string ⟨#[]⟩, .string ⟨#[]⟩, .slice none 0 0, .slice none 0 0, .slice none 0 0] #[.string nm, .string su, .slice pv.a pv.n pv.c, .slice none 0 0, .slice none 0 0] st wc ∧ Rw elCs wB wc (.slice pv.a pv.n pv.c) acc ∧ dLoop dCs n1 [] s3 = (acc, st) ∧ ∀ t ∈ acc, RCs t)
  case first =>
    go_wp2_with fail
    go_loopw [7] (fun i wr => ∃ (acc : List Cs) (st : Sb) (pv : Sv), i = .int .i64 (acc.length : Int) ∧ acc.length ≤ n1 ∧ MS wB 28 p q R M #[.string ⟨#[]⟩, .string ⟨#[]⟩, .slice none 0 0, .slice none 0 0, .slice none 0 0] #[.string nm, .string su, .slice pv.a pv.n pv.c, .slice none 0 0, .slice none 0 0] st wr ∧ Rw elCs wB wr (.slice pv.a pv.n pv.c) acc ∧ dLoop dCs n1 [] s3 = dLoop dCs (n1 - acc.length) acc st ∧ ∀ t ∈ acc, RCs t) (fun i _ => n1 - (intOf i).toNat)
    case atStart => exact ⟨[], s3, ⟨none, 0, 0⟩, rfl, Nat.zero_le _, HM3.out, Rw.nil _ _ _, rfl, fun t ht => by simp at ht⟩
    case round =>
      clear HM3
      obtain ⟨acc, ⟨l, b'⟩, ⟨pva, pvn, pvc⟩, rfl, hacc, ms, rw1, hL, hfit⟩ := hrel
      simp only [] at ms rw1
      obtain ⟨⟨c0, c1, c2, c3, c4⟩, z0, z1, z2, z3, z4⟩ := cells5z ms.hM
      obtain ⟨d0, d1, dz⟩ := ms.ds.cells
      simp only [] at d1
      by_cases hlt2 : acc.length < n1
      · cases b' with
        | true =>
          have HM2 : Hid (_ ∧ _ ∧ dLoop dCs n1 [] s3 = (acc, (l, true)) ∧ _) := ⟨ms, rw1, by rw [hL, dLoop_bad], hfit⟩
          clear hL ms rw1 hfit
          go_wp2_with fail
          go_meet
          exact ⟨acc, (l, true), ⟨pva, pvn, pvc⟩, HM2.out.1, HM2.out.2.1, HM2.out.2.2.1, HM2.out.2.2.2⟩
        | false =>
          have HG : Hid (dLoop dCs n1 [] s3 = dLoop dCs (n1 - (acc.length + 1)) (acc ++ [(dCs (l, false)).1]) (dCs (l, false)).2) := by show _ = _; rw [hL, dLoop_go dCs n1 acc.length acc l hlt2]
          have hft : RCs (dCs (l, false)).1 := dCs_fit (l, false) ms.ds.by_
          have KT := dConst_any wr.drew p q (l, false) ms.drew.ds
          have HFIT : Hid (_ ∧ _) := And.intro hfit hft
          obtain ⟨po, pcap, epv⟩ := rw1.own.form
          simp only [Value.slice.injEq] at epv
          obtain ⟨rfl, rfl, rfl⟩ := epv
          clear hL hfit hft
          generalize dCs (l, false) = t3 at *
          obtain ⟨⟨xk, xn, xr, xi, xc, xm⟩, s4⟩ := t3
          simp only [] at KT HG
          have hbb : acc.length + ([⟨xk, xn, xr, xi, xc, xm⟩] : List Cs).length ≤ 1000000 := by simp; omega
          go_wp2_with fail
          go_region_law (first | (refine step_apdH okCs _ rfl rfl (.tmp 56) (.tmp 59) rfl _ acc (by simp [Act.eval]) rw3a.own _ (by simp [Act.eval]) [⟨xk, xn, xr, xi, xc, xm⟩] hs3 (by simp) hbb ?_; intro v7 w7 o7 s7; obtain ⟨ms7, rw7⟩ := ms3a.row rw3a (by decide) o7 s7; obtain ⟨a7, c7', e7⟩ := o7.form; rw [List.length_append] at e7; subst e7; obtain ⟨⟨c0, c1, c2, c3, c4⟩, z0, z1, z2, z3, z4⟩ := cells5z ms7.hM) | (go_simp; go_at_call 28; refine KT.mono ?_; rintro e w3 ⟨rfl, r3, f3⟩; have ms3 := ms.drew.read r3 f3; have rw3 := rw1.drew.read ms.pl ms.ql f3; have hM3 := ms3.ltM; obtain ⟨⟨c0, c1, c2, c3, c4⟩, z0, z1, z2, z3, z4⟩ := cells5z ms3.hM; have hs3 := srcG_one okCs w3 ⟨xk, xn, xr, xi, xc, xm⟩; have rw3a := rw3.new ((Fr.refl no w3).alloc #[.int .i64 xk, .int .i64 xn, .complex .f64 xr xi, .string xc, .string xm] 39); have ms3a := ms3.new ((Fr.refl no w3).alloc #[.int .i64 xk, .int .i64 xn, .complex .f64 xr xi, .string xc, .string xm] 39)))
          all_goals (go_wp2_with fail; go_roundw; (case rel => exact ⟨acc ++ [⟨xk, xn, xr, xi, xc, xm⟩], s4, ⟨a7, acc.length + 1, c7'⟩, by simp, by simp; omega, ms7.set 2 _ (nob_sl _ _ _), rw7.set ms7.hM (by decide) 2 _, by rw [HG.out, List.length_append]; rfl, fun t ht => by (rcases List.mem_append.1 ht with ht | ht); exact HFIT.out.1 t ht; (simp at ht; subst ht; exact HFIT.out.2)⟩); (case measure => simp [intOf]; omega))
      · have HM2 : Hid (_ ∧ _ ∧ dLoop dCs n1 [] s3 = (acc, (l, b')) ∧ _) := ⟨ms, rw1, by rw [hL, show n1 - acc.length = 0 by omega]; rfl, hfit⟩
        clear hL ms rw1 hfit
        go_wp2_with fail
        go_meet
        exact ⟨acc, (l, b'), ⟨pva, pvn, pvc⟩, HM2.out.1, HM2.out.2.1, HM2.out.2.2.1, HM2.out.2.2.2⟩
  case rest =>
    clear HM3
    obtain ⟨pool, s4, ⟨pva, pvn, pvc⟩, ms, rwp, hL, hfit⟩ := hcut
    simp only [] at ms rwp
    rw [hL] at HDC
    simp only [] at HDC
    have HFP : Hid (∀ t ∈ pool, RCs t) := hfit
    clear hL hfit
    have K4 := dNum_any _ p q s4 ms.ds 8 (by omega) (by omega)
    have hn2 := dN_fit 8 s4
    have hn2 : (dN 8 s4).1 ≤ 8 := hn2
    generalize dN 8 s4 = t4 at *
    obtain ⟨n2, s5⟩ := t4
    simp only [] at K4 HDC hn2
    have HI4 : Hid (_ ∧ _) := ⟨ms, rwp⟩
    clear ms rwp
    go_wp2_with fail
    refine K4.mono ?_
    rintro x w4 ⟨rfl, r4, f4⟩
    have ms4 := HI4.out.1.read r4 f4
    have HM4 : Hid (_ ∧ _) := ⟨ms4, HI4.out.2.read HI4.out.1.pl HI4.out.1.ql f4⟩
    clear K4 HI4 ms4 r4 f4
    go_upto_block 2 with fail
    go_cut [8] (fun i wc => ∃ (acc : List Fd) (st : Sb) (fv : Sv), MS wB 28 p q R M #[.string ⟨#[]⟩, .string ⟨#[]⟩, .slice none 0 0, .slice none 0 0, .slice none 0 0] #[.string nm, .string su, .slice pva pvn pvc, .slice fv.a fv.n fv.c, .slice none 0 0] st wc ∧ Rw elCs wB wc (.slice pva pvn pvc) pool ∧ Rw elFd wB wc (.slice fv.a fv.n fv.c) acc ∧ dLoop dFd n2 [] s5 = (acc, st) ∧ ∀ t ∈ acc, t.name.size ≤ 20 ∧ t.ty.c.size ≤ 20)
    case first =>
      go_wp2_with fail
      go_loopw [8] (fun i wr => ∃ (acc : List Fd) (st : Sb) (fv : Sv), i = .int .i64 (acc.length : Int) ∧ acc.length ≤ n2 ∧ MS wB 28 p q R M #[.string ⟨#[]⟩, .string ⟨#[]⟩, .slice none 0 0, .slice none 0 0, .slice none 0 0] #[.string nm, .string su, .slice pva pvn pvc, .slice fv.a fv.n fv.c, .slice none 0 0] st wr ∧ Rw elCs wB wr (.slice pva pvn pvc) pool ∧ Rw elFd wB wr (.slice fv.a fv.n fv.c) acc ∧ dLoop dFd n2 [] s5 = dLoop dFd (n2 - acc.length) acc st ∧ ∀ t ∈ acc, t.name.size ≤ 20 ∧ t.ty.c.size ≤ 20) (fun i _ => n2 - (intOf i).toNat)
      case atStart => exact ⟨[], s5, ⟨none, 0, 0⟩, rfl, Nat.zero_le _, HM4.out.1, HM4.out.2, Rw.nil _ _ _, rfl, fun t ht => by simp at ht⟩
      case round =>
        clear HM4
        obtain ⟨acc, ⟨l, b'⟩, ⟨fva, fvn, fvc⟩, rfl, hacc, ms, rwp, rwf, hL, hfit⟩ := hrel
        simp only [] at ms rwf
        obtain ⟨⟨c0, c1, c2, c3, c4⟩, z0, z1, z2, z3, z4⟩ := cells5z ms.hM
        obtain ⟨d0, d1, dz⟩ := ms.ds.cells
        simp only [] at d1
        by_cases hlt2 : acc.length < n2
        · cases b' with
          | true =>
            have HM2 : Hid (_ ∧ _ ∧ _ ∧ dLoop dFd n2 [] s5 = (acc, (l, true)) ∧ _) := ⟨ms, rwp, rwf, by rw [hL, dLoop_bad], hfit⟩
            clear hL ms rwp rwf hfit
            go_wp2_with fail
            go_meet
            exact ⟨acc, (l, true), ⟨fva, fvn, fvc⟩, HM2.out.1, HM2.out.2.1, HM2.out.2.2.1, HM2.out.2.2.2.1, HM2.out.2.2.2.2⟩
          | false =>
            have HG : Hid (dLoop dFd n2 [] s5 = dLoop dFd (n2 - (acc.length + 1)) (acc ++ [(dFd (l, false)).1]) (dFd (l, false)).2) := by show _ = _; rw [hL, dLoop_go dFd n2 acc.length acc l hlt2]
            have HDF : Hid (dFd (l, false) = (⟨(dX 20 (l, false)).1, (dTy (dX 20 (l, false)).2).1, decide ((dB (dTy (dX 20 (l, false)).2).2).1 = 1)⟩, ((dB (dTy (dX 20 (l, false)).2).2).2.1, (dB (dTy (dX 20 (l, false)).2).2).2.2 || decide (1 < (dB (dTy (dX 20 (l, false)).2).2).1)))) := rfl
            obtain ⟨po, pcap, epv⟩ := rwf.own.form
            simp only [Value.slice.injEq] at epv
            obtain ⟨rfl, rfl, rfl⟩ := epv
            have K5 := dText_any wr p q (l, false) ms.ds
            have hfx := dX_fit (l, false) ms.ds.by_
            have HFIT : Hid (∀ t ∈ acc, t.name.size ≤ 20 ∧ t.ty.c.size ≤ 20) := hfit
            have HI : Hid (_ ∧ _ ∧ _) := ⟨ms, rwp, rwf⟩
            clear hL hfit ms rwp rwf
            generalize dFd (l, false) = DF at *
            generalize dX 20 (l, false) = yy at *
            obtain ⟨fnm, t1⟩ := yy
            simp only [] at K5 HDF hfx
            go_wp2_with fail
            refine K5.mono ?_
            rintro x v1 ⟨rfl, r, f⟩
            clear K5
            clear c0 c1 c2 c3 c4 z0 z1 z2 z3 z4
            have ms1 := HI.out.1.read r f
            have rwp1 := HI.out.2.1.read HI.out.1.pl HI.out.1.ql f
            have rwf1 := HI.out.2.2.read HI.out.1.pl HI.out.1.ql f
            clear HI r f
            have hbH := heap_alloc_new v1 (.cells #[.string fnm, .int .i64 0, .string ⟨#[]⟩, .bool false] 48)
            have fH : Fr no v1 (v1.alloc (.cells #[.string fnm, .int .i64 0, .string ⟨#[]⟩, .bool false] 48)) := (Fr.refl no v1).alloc _ _
            have HQ : Hid (Value.ownBlock (.slice fva acc.length fvc) ≠ some v1.heap.size ∧ v1.heap.size ≠ R ∧ v1.heap.size ≠ M ∧ wB.heap.size ≤ v1.heap.size ∧ v1.heap.size ≠ p ∧ v1.heap.size ≠ q) := by
              have q1 := ms1.ltR
              have q2 := ms1.ltM
              have q3 := ms1.pl
              have q4 := ms1.ql
              have q5 := ms1.fr.size
              exact ⟨fun e => by have := rwf1.own.lt e; omega, by omega, by omega, q5, by omega, by omega⟩
            have hty := dTy_fit t1 ms1.ds.by_
            replace ms1 := ms1.new fH
            replace rwp1 := rwp1.new fH
            replace rwf1 := rwf1.new fH
            have K6 := dType_any _ p q t1 ms1.ds
            generalize dTy t1 = yy at *
            obtain ⟨⟨tk, tc⟩, t2⟩ := yy
            simp only [] at K6 HDF hty
            have HI : Hid (_ ∧ _ ∧ _ ∧ _) := ⟨ms1, rwp1, rwf1, hbH⟩
            clear ms1 rwp1 rwf1 hbH fH
            go_wp2_with fail
            refine K6.mono ?_
            rintro x v2 ⟨rfl, r, f⟩
            clear K6
            generalize hQH : v1.heap.size = Q at *
            clear hQH
            have ms1 := HI.out.1.read r f
            have rwp1 := HI.out.2.1.read HI.out.1.pl HI.out.1.ql f
            have rwf1 := HI.out.2.2.1.read HI.out.1.pl HI.out.1.ql f
            have hbH := f.heap HI.out.2.2.2 (fun e => e.elim (fun e => HQ.out.2.2.2.2.1 e) (fun e => HQ.out.2.2.2.2.2 e))
            clear HI r f
            obtain ⟨⟨h0, h1, h2, h3⟩, y0, y1, y2, y3⟩ := cells4z hbH
            have nb0 : ∀ u ∈ (#[.string fnm, .int .i64 0, .string ⟨#[]⟩, .bool false] : Array Value).toList, nob u := nobs4 (nob_str _) (nob_int _) (nob_str _) (nob_bool _)
            have nb1 : ∀ u ∈ (#[.string fnm, .int .i64 tk, .string ⟨#[]⟩, .bool false] : Array Value).toList, nob u := nobs4 (nob_str _) (nob_int _) (nob_str _) (nob_bool _)
            have hbH1 : (v2.setCell ⟨Q, 1, none⟩ (.int .i64 tk)).heap[Q]? = some (.cells #[.string fnm, .int .i64 tk, .string ⟨#[]⟩, .bool false] 48 (0, 0)) := set_at hbH 1 _
            have hbH2 : ((v2.setCell ⟨Q, 1, none⟩ (.int .i64 tk)).setCell ⟨Q, 2, none⟩ (.string tc)).heap[Q]? = some (.cells #[.string fnm, .int .i64 tk, .string tc, .bool false] 48 (0, 0)) := set_at hbH1 2 _
            have ms2 := (ms1.other hbH nb0 HQ.out.2.1 HQ.out.2.2.1 HQ.out.2.2.2.1 1 (.int .i64 tk)).other hbH1 nb1 HQ.out.2.1 HQ.out.2.2.1 HQ.out.2.2.2.1 2 (.string tc)
            have rwp2 := (rwp1.set hbH (by decide) 1 (.int .i64 tk)).set hbH1 (by decide) 2 (.string tc)
            have rwf2 := (rwf1.other HQ.out.1 1 (.int .i64 tk)).other HQ.out.1 2 (.string tc)
            have K7 := dByt_any _ p q t2 ms2.ds
            have hbv := dB_lt ms2.ds
            generalize dB t2 = yy at *
            obtain ⟨bv, ⟨l3, b3⟩⟩ := yy
            simp only [] at K7 HDF hbv
            have HI : Hid (_ ∧ _ ∧ _ ∧ _) := ⟨ms2, rwp2, rwf2, hbH2⟩
            clear ms1 rwp1 rwf1 hbH hbH1 nb0 nb1 ms2 rwp2 rwf2 hbH2
            go_wp2_with fail
            refine K7.mono ?_
            rintro x v3 ⟨rfl, r, f⟩
            clear K7
            clear h0 h1 h2 h3 y0 y1 y2 y3
            have ms1 := HI.out.1.read r f
            have rwp1 := HI.out.2.1.read HI.out.1.pl HI.out.1.ql f
            have rwf1 := HI.out.2.2.1.read HI.out.1.pl HI.out.1.ql f
            have hbH := f.heap HI.out.2.2.2 (fun e => e.elim (fun e => HQ.out.2.2.2.2.1 e) (fun e => HQ.out.2.2.2.2.2 e))
            clear HI r f
            have HI : Hid (_ ∧ _ ∧ _ ∧ _) := ⟨ms1, rwp1, rwf1, hbH⟩
            clear ms1 rwp1 rwf1 hbH
            go_upto_region 18 with fail
            go_cut [10] (fun x wc => x = .int .u8 (bv : Int) ∧ MS wB 28 p q R M #[.string ⟨#[]⟩, .string ⟨#[]⟩, .slice none 0 0, .slice none 0 0, .slice none 0 0] #[.string nm, .string su, .slice pva pvn pvc, .slice fva acc.length fvc, .slice none 0 0] (l3, b3 || decide (1 < bv)) wc ∧ Rw elCs wB wc (.slice pva pvn pvc) pool ∧ Rw elFd wB wc (.slice fva acc.length fvc) acc ∧ wc.heap[Q]? = some (.cells #[.string fnm, .int .i64 tk, .string tc, .bool false] 48 (0, 0)))
            case first =>
              obtain ⟨d0, d1, dz⟩ := HI.out.1.ds.cells
              simp only [] at d1
              have S := fun bb : Bool => And.intro (HI.out.1.bad bb) (And.intro (HI.out.2.1.bad (p := p) HI.out.1.pl bb) (And.intro (HI.out.2.2.1.bad (p := p) HI.out.1.pl bb) ((fr_one v3 p 1 (.bool bb)).heap HI.out.2.2.2 (fun e => HQ.out.2.2.2.2.1 e))))
              cases b3 with
              | true =>
                have HT : Hid (_) := S true
                clear S
                go_wp2_with fail
                go_meet
                exact ⟨rfl, by simpa using HT.out.1, HT.out.2.1, HT.out.2.2.1, HT.out.2.2.2⟩
              | false =>
                by_cases hv1 : 1 < bv
                · have HT : Hid (_) := S true
                  have hv2 : (1 : Int) < (bv : Int) := by omega
                  clear S
                  go_wp2_with fail
                  go_meet
                  exact ⟨rfl, by rw [decide_eq_true hv1]; exact HT.out.1, HT.out.2.1, HT.out.2.2.1, HT.out.2.2.2⟩
                · have HT : Hid (_) := S false
                  have hv2 : ¬ (1 : Int) < (bv : Int) := by omega
                  clear S
                  go_wp2_with fail
                  go_meet
                  exact ⟨rfl, by rw [decide_eq_false hv1]; exact HT.out.1, HT.out.2.1, HT.out.2.2.1, HT.out.2.2.2⟩
            case rest =>
              clear HI
              obtain ⟨rfl, ms5, rwp5, rwf5, hb5⟩ := hcut
              have hdv : ((bv : Int) == 1) = decide (bv = 1) := by by_cases h : bv = 1 <;> simp [h] <;> omega
              have nb5 : ∀ u ∈ (#[.string fnm, .int .i64 tk, .string tc, .bool false] : Array Value).toList, nob u := nobs4 (nob_str _) (nob_int _) (nob_str _) (nob_bool _)
              have hb6 : (wc.setCell ⟨Q, 3, none⟩ (.bool (decide (bv = 1)))).heap[Q]? = some (.cells #[.string fnm, .int .i64 tk, .string tc, .bool (decide (bv = 1))] 48 (0, 0)) := set_at hb5 3 _
              have HI : Hid (_ ∧ _ ∧ _ ∧ _) := ⟨ms5.other hb5 nb5 HQ.out.2.1 HQ.out.2.2.1 HQ.out.2.2.2.1 3 (.bool (decide (bv = 1))), rwp5.set hb5 (by decide) 3 (.bool (decide (bv = 1))), rwf5.other HQ.out.1 3 (.bool (decide (bv = 1))), hb6⟩
              obtain ⟨⟨h0, h1, h2, h3⟩, y0, y1, y2, y3⟩ := cells4z hb5
              clear ms5 rwp5 rwf5 hb5 nb5 hb6
              have HFN : Hid (fnm.size ≤ 20 ∧ tc.size ≤ 20) := ⟨hfx, hty⟩
              generalize hdd : decide (bv = 1) = dv at *
              clear hdd
              go_upto_region 20 with fail
              generalize hW5 : wc.setCell ⟨Q, 3, none⟩ (.bool dv) = W5 at *
              clear hW5
              clear h0 h1 h2 h3 y0 y1 y2 y3
              obtain ⟨ms5, rwp5, rwf5, hb5⟩ := HI.out
              obtain ⟨⟨h0, h1, h2, h3⟩, y0, y1, y2, y3⟩ := cells4z hb5
              obtain ⟨⟨c0, c1, c2, c3, c4⟩, z0, z1, z2, z3, z4⟩ := cells5z ms5.hM
              have fB : Fr no W5 (W5.alloc (.cells #[.string fnm, .int .i64 tk, .string tc, .bool dv] 48)) := (Fr.refl no W5).alloc _ _
              have hS : Src Tryz.prog 4 25 (.slice (some ⟨W5.heap.size, 0, none⟩) 1 1) ([⟨fnm, ⟨tk, tc⟩, dv⟩] : List Fd).length (cg elFd [⟨fnm, ⟨tk, tc⟩, dv⟩]) (W5.alloc (.cells #[.string fnm, .int .i64 tk, .string tc, .bool dv] 48)) := srcG_one okFd W5 ⟨fnm, ⟨tk, tc⟩, dv⟩
              have rwfA := rwf5.new fB
              have msA := ms5.new fB
              have rwpA := rwp5.new fB
              have hbb : acc.length + ([⟨fnm, ⟨tk, tc⟩, dv⟩] : List Fd).length ≤ 1000000 := by simp; omega
              have HB : Hid (∀ v7 w7, OwnG elFd w7 v7 (acc ++ [⟨fnm, ⟨tk, tc⟩, dv⟩]) → Sp no (.slice fva acc.length fvc) (W5.alloc (.cells #[.string fnm, .int .i64 tk, .string tc, .bool dv] 48)) v7 w7 → (MS wB 28 p q R M #[.string ⟨#[]⟩, .string ⟨#[]⟩, .slice none 0 0, .slice none 0 0, .slice none 0 0] #[.string nm, .string su, .slice pva pvn pvc, .slice fva acc.length fvc, .slice none 0 0] (l3, b3 || decide (1 < bv)) w7) ∧ Rw elCs wB w7 (.slice pva pvn pvc) pool ∧ Rw elFd wB w7 v7 (acc ++ [⟨fnm, ⟨tk, tc⟩, dv⟩])) := fun v7 w7 o7 s7 => by
                have z := msA.row rwfA (by decide) o7 s7
                exact ⟨z.1, rwpA.beside rwfA.own (by decide) s7, z.2⟩
              have hOA := rwfA.own
              clear HI ms5 rwp5 rwf5 hb5 fB rwfA msA rwpA
              go_wp2_with (at_builtin; refine wpList_apdG okFd _ rfl rfl (.tmp 99) (.tmp 101) rfl _ acc rfl hOA _ rfl [⟨fnm, ⟨tk, tc⟩, dv⟩] hS (by simp) hbb ?_; intro v7 w7 o7 s7; obtain ⟨ms7, rwp7, rwf7⟩ := HB.out v7 w7 o7 s7; obtain ⟨a7, c7x, e7⟩ := o7.form; rw [List.length_append] at e7; subst e7; obtain ⟨⟨x0, x1, x2, x3, x4⟩, u0z, u1z, u2z, u3z, u4z⟩ := cells5z ms7.hM)
              go_roundw
              case rel => exact ⟨acc ++ [⟨fnm, ⟨tk, tc⟩, dv⟩], (l3, b3 || decide (1 < bv)), ⟨a7, acc.length + 1, c7x⟩, by simp, by simp; omega, ms7.set 3 _ (nob_sl _ _ _), rwp7.set ms7.hM (by decide) 3 _, rwf7.set ms7.hM (by decide) 3 _, by rw [HG.out, HDF.out, List.length_append]; rfl, fun t ht => by (rcases List.mem_append.1 ht with ht | ht); exact HFIT.out t ht; (simp at ht; subst ht; exact HFN.out)⟩
              case measure => simp [intOf]; omega
        · have HM2 : Hid (_ ∧ _ ∧ _ ∧ dLoop dFd n2 [] s5 = (acc, (l, b')) ∧ _) := ⟨ms, rwp, rwf, by rw [hL, show n2 - acc.length = 0 by omega]; rfl, hfit⟩
          clear hL ms rwp rwf hfit
          go_wp2_with fail
          go_meet
          exact ⟨acc, (l, b'), ⟨fva, fvn, fvc⟩, HM2.out.1, HM2.out.2.1, HM2.out.2.2.1, HM2.out.2.2.2.1, HM2.out.2.2.2.2⟩
    case rest =>
      clear HM4
      obtain ⟨fields, s6, ⟨fva, fvn, fvc⟩, ms, rwp, rwf, hL, hfit⟩ := hcut
      simp only [] at ms rwf
      rw [hL] at HDC
      simp only [] at HDC
      have HFF : Hid (∀ t ∈ fields, t.name.size ≤ 20 ∧ t.ty.c.size ≤ 20) := hfit
      clear hL hfit
      have K8 := dNum_any _ p q s6 ms.ds 12 (by omega) (by omega)
      have hn3 := dN_fit 12 s6
      have hn3 : (dN 12 s6).1 ≤ 12 := hn3
      generalize dN 12 s6 = t8 at *
      obtain ⟨n3, s7⟩ := t8
      simp only [] at K8 HDC hn3
      have HI8 : Hid (_ ∧ _ ∧ _) := ⟨ms, rwp, rwf⟩
      clear ms rwp rwf
      go_wp2_with fail
      refine K8.mono ?_
      rintro x w8 ⟨rfl, r8, f8⟩
      have ms8 := HI8.out.1.read r8 f8
      have HM8 : Hid (_ ∧ _ ∧ _) := ⟨ms8, HI8.out.2.1.read HI8.out.1.pl HI8.out.1.ql f8, HI8.out.2.2.read HI8.out.1.pl HI8.out.1.ql f8⟩
      clear K8 HI8 ms8 r8 f8
      go_upto_block 4 with fail
      go_cut [11] (fun i wc => ∃ (acc : List Mt) (ys : List Ms) (st : Sb) (mv : Sv), MS wB 28 p q R M #[.string ⟨#[]⟩, .string ⟨#[]⟩, .slice none 0 0, .slice none 0 0, .slice none 0 0] #[.string nm, .string su, .slice pva pvn pvc, .slice fva fvn fvc, .slice mv.a mv.n mv.c] st wc ∧ Rw elCs wB wc (.slice pva pvn pvc) pool ∧ Rw elFd wB wc (.slice fva fvn fvc) fields ∧ Rw elMs wB wc (.slice mv.a mv.n mv.c) ys ∧ OwnAll wc ys acc ∧ dLoop dMt n3 [] s7 = (acc, st) ∧ ∀ t ∈ acc, FitM t)
      case first =>
        go_wp2_with fail
        go_loopw [11] (fun i wr => ∃ (acc : List Mt) (ys : List Ms) (st : Sb) (mv : Sv), i = .int .i64 (acc.length : Int) ∧ acc.length ≤ n3 ∧ MS wB 28 p q R M #[.string ⟨#[]⟩, .string ⟨#[]⟩, .slice none 0 0, .slice none 0 0, .slice none 0 0] #[.string nm, .string su, .slice pva pvn pvc, .slice fva fvn fvc, .slice mv.a mv.n mv.c] st wr ∧ Rw elCs wB wr (.slice pva pvn pvc) pool ∧ Rw elFd wB wr (.slice fva fvn fvc) fields ∧ Rw elMs wB wr (.slice mv.a mv.n mv.c) ys ∧ OwnAll wr ys acc ∧ dLoop dMt n3 [] s7 = dLoop dMt (n3 - acc.length) acc st ∧ ∀ t ∈ acc, FitM t) (fun i _ => n3 - (intOf i).toNat)
        case atStart => exact ⟨[], [], s7, ⟨none, 0, 0⟩, rfl, Nat.zero_le _, HM8.out.1, HM8.out.2.1, HM8.out.2.2, Rw.nil _ _ _, ⟨rfl, fun i s m h _ => by simp at h⟩, rfl, fun t ht => by simp at ht⟩
        case round =>
          clear HM8
          obtain ⟨acc, ys, ⟨l, b'⟩, ⟨mva, mvn, mvc⟩, rfl, hacc, ms, rwp, rwf, rwm, hoa, hL, hfit⟩ := hrel
          simp only [] at ms rwm
          obtain ⟨⟨c0, c1, c2, c3, c4⟩, z0, z1, z2, z3, z4⟩ := cells5z ms.hM
          obtain ⟨d0, d1, dz⟩ := ms.ds.cells
          simp only [] at d1
          by_cases hlt2 : acc.length < n3
          · cases b' with
            | true =>
              have HM2 : Hid (_ ∧ _ ∧ _ ∧ _ ∧ _ ∧ dLoop dMt n3 [] s7 = (acc, (l, true)) ∧ _) := ⟨ms, rwp, rwf, rwm, hoa, by rw [hL, dLoop_bad], hfit⟩
              clear hL ms rwp rwf rwm hoa hfit
              go_wp2_with fail
              go_meet
              exact ⟨acc, ys, (l, true), ⟨mva, mvn, mvc⟩, HM2.out.1, HM2.out.2.1, HM2.out.2.2.1, HM2.out.2.2.2.1, HM2.out.2.2.2.2.1, HM2.out.2.2.2.2.2.1, HM2.out.2.2.2.2.2.2⟩
            | false =>
              have HG : Hid (dLoop dMt n3 [] s7 = dLoop dMt (n3 - (acc.length + 1)) (acc ++ [(dMt (l, false)).1]) (dMt (l, false)).2) := by show _ = _; rw [hL, dLoop_go dMt n3 acc.length acc l hlt2]
              have KT := dMethod_any wr.drew p q (l, false) ms.drew.ds
              unfold msV at KT
              obtain ⟨po, pcap, epv⟩ := rwm.own.form
              simp only [Value.slice.injEq] at epv
              obtain ⟨rfl, rfl, rfl⟩ := epv
              have HFIT : Hid (∀ t ∈ acc, FitM t) := hfit
              have HLY : Hid (ys.length = acc.length) := hoa.1
              clear hL hfit
              generalize dMt (l, false) = t3 at *
              obtain ⟨xm, s8⟩ := t3
              simp only [] at KT HG
              have hbb : ys.length + 1 ≤ 1000000 := by have := HLY.out; omega
              go_wp2_with fail
              go_region_law (first | (refine step_apdH okMs _ rfl rfl (.tmp 119) (.tmp 122) rfl _ ys (by simp [Act.eval]) rwm3a.own _ (by simp [Act.eval]) [⟨yn, ⟨ypa, ypn, ypc⟩, ⟨yrk, yrc⟩, ylo, yst, ⟨yca, ycn, ycc⟩, ⟨yha, yhn, yhc⟩⟩] hs3 (by simp) hbb ?_; intro v7 w7 o7 s7x; obtain ⟨ms7, rwm7⟩ := ms3a.row rwm3a (by decide) o7 s7x; have rwp7 := rwp3a.beside rwm3a.own (by decide) s7x; have rwf7 := rwf3a.beside rwm3a.own (by decide) s7x; have oa7 := (oa3a.rowB rwm3a.own ⟨by decide, by decide, by decide⟩ s7x).snoc (mo3a.rowB rwm3a.own ⟨by decide, by decide, by decide⟩ s7x); obtain ⟨a7, c7', e7⟩ := o7.form; rw [List.length_append] at e7; subst e7; obtain ⟨⟨c0, c1, c2, c3, c4⟩, z0, z1, z2, z3, z4⟩ := cells5z ms7.hM) | (go_simp; go_at_call 31; refine KT.mono ?_; rintro e w3 ⟨⟨yn, ⟨ypa, ypn, ypc⟩, ⟨yrk, yrc⟩, ylo, yst, ⟨yca, ycn, ycc⟩, ⟨yha, yhn, yhc⟩⟩, rfl, mo3, r3, f3, fm3⟩; have ms3 := ms.drew.read r3 f3; have rwp3 := rwp.drew.read ms.pl ms.ql f3; have rwf3 := rwf.drew.read ms.pl ms.ql f3; have rwm3 := rwm.drew.read ms.pl ms.ql f3; have oa3 := (hoa.newB (Fr.refl no wr).drew).readB ms.drew.ds f3; have hM3 := ms3.ltM; obtain ⟨⟨c0, c1, c2, c3, c4⟩, z0, z1, z2, z3, z4⟩ := cells5z ms3.hM; have hs3 := srcG_one okMs w3 ⟨yn, ⟨ypa, ypn, ypc⟩, ⟨yrk, yrc⟩, ylo, yst, ⟨yca, ycn, ycc⟩, ⟨yha, yhn, yhc⟩⟩; have fa3 : Fr no w3 (w3.alloc (.cells #[.string yn, .slice ypa ypn ypc, .int .i64 yrk, .string yrc, .int .i64 ylo, .int .i64 yst, .slice yca ycn ycc, .slice yha yhn yhc] 53)) := (Fr.refl no w3).alloc _ _; have rwm3a := rwm3.new fa3; have rwp3a := rwp3.new fa3; have rwf3a := rwf3.new fa3; have oa3a := oa3.newB fa3; have mo3a := mo3.newB fa3; have ms3a := ms3.new fa3))
              all_goals (go_wp2_with fail; go_roundw; (case rel => exact ⟨acc ++ [xm], ys ++ [⟨yn, ⟨ypa, ypn, ypc⟩, ⟨yrk, yrc⟩, ylo, yst, ⟨yca, ycn, ycc⟩, ⟨yha, yhn, yhc⟩⟩], s8, ⟨a7, ys.length + 1, c7'⟩, by simp, by simp; omega, ms7.set 4 _ (nob_sl _ _ _), rwp7.set ms7.hM (by decide) 4 _, rwf7.set ms7.hM (by decide) 4 _, rwm7.set ms7.hM (by decide) 4 _, oa7.setB ms7.hM ⟨by decide, by decide, by decide⟩ 4 _, by rw [HG.out, List.length_append]; rfl, fun t ht => by (rcases List.mem_append.1 ht with ht | ht); exact HFIT.out t ht; (simp at ht; subst ht; exact fm3)⟩); (case measure => simp [intOf]; omega))
          · have HM2 : Hid (_ ∧ _ ∧ _ ∧ _ ∧ _ ∧ dLoop dMt n3 [] s7 = (acc, (l, b')) ∧ _) := ⟨ms, rwp, rwf, rwm, hoa, by rw [hL, show n3 - acc.length = 0 by omega]; rfl, hfit⟩
            clear hL ms rwp rwf rwm hoa hfit
            go_wp2_with fail
            go_meet
            exact ⟨acc, ys, (l, b'), ⟨mva, mvn, mvc⟩, HM2.out.1, HM2.out.2.1, HM2.out.2.2.1, HM2.out.2.2.2.1, HM2.out.2.2.2.2.1, HM2.out.2.2.2.2.2.1, HM2.out.2.2.2.2.2.2⟩
      case rest =>
        clear HM8
        obtain ⟨meths, ys, ⟨l9, b9⟩, ⟨mva, mvn, mvc⟩, ms, rwp, rwf, rwm, hoa, hL, hfit⟩ := hcut
        simp only [] at ms rwm
        rw [hL] at HDC
        simp only [] at HDC
        have HFM : Hid (∀ t ∈ meths, FitM t) := hfit
        clear hL hfit
        have FW : Hid (∀ w', Fr (PQ p q) wB w' → Fr no w w') := fun w' f => HWB.out.1.trans f (fun _ _ f => f) (fun i hi e => by have := HPQ2.out; have := HQR.out; rcases e with e | e <;> omega)
        obtain ⟨d0, d1, dz⟩ := ms.ds.cells
        simp only [] at d1
        obtain ⟨vq, hq1, hq2⟩ := ms.ds.rd
        obtain ⟨qo9, qcap9, eq0, -⟩ := hq2.shape
        simp only [] at eq0
        subst eq0
        have hcq := cell_of_one hq1
        clear hq1 hq2
        have HI9 : Hid (_ ∧ _ ∧ _ ∧ _ ∧ _) := ⟨ms, rwp, rwf, rwm, hoa⟩
        obtain ⟨⟨c0, c1, c2, c3, c4⟩, z0, z1, z2, z3, z4⟩ := cells5z ms.hM
        have hl9 : l9.length ≤ 1099511627776 := ms.ds.ln
        clear ms rwp rwf rwm hoa
        cases b9 with
        | true =>
          have HN : Hid (NoCls b) := fun c hc => by have := HCR.out c hc; rw [HDC.out] at this; simp at this
          obtain ⟨⟨y0, y1, y2, y3, y4⟩, x0, x1, x2, x3, x4⟩ := cells5z HI9.out.1.hR
          have HL : Hid (_ ∧ _ ∧ NoCls b) := ⟨HI9.out.1.hR, FW.out _ HI9.out.1.fr, HN.out⟩
          go_wp2_with fail
          have FF := fr_chain5 wc R (.string ⟨#[]⟩) (.string ⟨#[]⟩) (.slice none 0 0) (.slice none 0 0) (.slice none 0 0)
          refine bodyPost_ret (results_9 _ R _ _ _ _ _ _ (set_chain5 HL.out.1) _ rfl rfl) rfl ?_
          exact told_mk zKs false rfl ⟨HL.out.2.1.trans FF (fun _ _ f => f) (fun i hi e => by have := HQR.out; omega), fun e => by simp at e, fun _ => HL.out.2.2⟩
        | false =>
        by_cases hne9 : 0 < l9.length
        · have hne9' : 0 < (l9.length : Int) := by omega
          have HN : Hid (NoCls b) := fun c hc => by
            have := HCR.out c hc
            rw [HDC.out] at this
            simp only [Prod.mk.injEq, and_true] at this
            rw [this.2] at hne9
            simp at hne9
          obtain ⟨⟨y0, y1, y2, y3, y4⟩, x0, x1, x2, x3, x4⟩ := cells5z HI9.out.1.hR
          have HL : Hid (_ ∧ _ ∧ NoCls b) := ⟨HI9.out.1.hR, FW.out _ HI9.out.1.fr, HN.out⟩
          go_wp2_with fail
          have FF := fr_chain5 wc R (.string ⟨#[]⟩) (.string ⟨#[]⟩) (.slice none 0 0) (.slice none 0 0) (.slice none 0 0)
          refine bodyPost_ret (results_9 _ R _ _ _ _ _ _ (set_chain5 HL.out.1) _ rfl rfl) rfl ?_
          exact told_mk zKs false rfl ⟨HL.out.2.1.trans FF (fun _ _ f => f) (fun i hi e => by have := HQR.out; omega), fun e => by simp at e, fun _ => HL.out.2.2⟩
        have hne9' : ¬ 0 < (l9.length : Int) := by omega
        have hfk : FitK ⟨nm, su, pool, fields, meths⟩ := ⟨⟨by unfold fitS; simp only []; omega, by unfold fitS; simp only []; omega, fun x hx => by have := HFP.out x hx; exact ⟨by unfold fitS; have := this.c; omega, by unfold fitS; have := this.m; omega⟩, fun x hx => by have := HFF.out x hx; exact ⟨by unfold fitS; omega, by unfold fitS; omega⟩, fun m hm => HFM.out m hm⟩, fun x hx => (HFP.out x hx).fit⟩
        have E := docEncode_any wc ⟨nm, su, ⟨pva, pvn, pvc⟩, ⟨fva, fvn, fvc⟩, ⟨mva, mvn, mvc⟩⟩ ⟨nm, su, pool, fields, meths⟩ ⟨rfl, rfl, HI9.out.2.1.own.sl okCs, HI9.out.2.2.1.own.sl okFd, ys, HI9.out.2.2.2.1.own.sl okMs, HI9.out.2.2.2.2.at⟩ hfk
        unfold ksV at E
        simp only [] at E
        have HFK : Hid (FitK ⟨nm, su, pool, fields, meths⟩) := hfk
        have HUN : Hid (∀ c, isCls b c → c = ⟨nm, su, pool, fields, meths⟩) := fun c hc => by
          have := HCR.out c hc
          rw [HDC.out] at this
          simp only [Prod.mk.injEq] at this
          exact this.1.symm
        clear hfk HCR HDC
        have HK : Hid (Cl.mk nm su pool fields meths = Cl.mk nm su pool fields meths) := rfl
        by_cases hez : ecE ⟨nm, su, pool, fields, meths⟩ = 0
        case neg =>
          have HN : Hid (NoCls b) := fun c hc => by
            have e := HUN.out c hc
            subst e
            exact hez (cls_ec hc).1
          generalize ecE ⟨nm, su, pool, fields, meths⟩ = err at *
          have he1 : ((err : Int) == 0) = false := by simp; omega
          have he2 : ((err : Int) != 0) = true := by simp; omega
          go_wp2_with fail
          refine E.mono ?_
          rintro x w9 ⟨vx, rfl, ox, f9⟩
          obtain ⟨xo, xn, xcap, rfl⟩ := ox.form
          have hR9 := f9.heap HI9.out.1.hR (fun f => f)
          have hfr9 := (FW.out _ HI9.out.1.fr).new f9 (fun _ _ f => f)
          obtain ⟨⟨y0, y1, y2, y3, y4⟩, x0, x1, x2, x3, x4⟩ := cells5z hR9
          have HL : Hid (_ ∧ _ ∧ NoCls b) := ⟨hR9, hfr9, HN.out⟩
          go_wp2_with fail
          have FF := fr_chain5 w9 R (.string ⟨#[]⟩) (.string ⟨#[]⟩) (.slice none 0 0) (.slice none 0 0) (.slice none 0 0)
          refine bodyPost_ret (results_9 _ R _ _ _ _ _ _ (set_chain5 HL.out.1) _ rfl rfl) rfl ?_
          exact told_mk zKs false rfl ⟨HL.out.2.1.trans FF (fun _ _ f => f) (fun i hi e => by have := HQR.out; omega), fun e => by simp at e, fun _ => HL.out.2.2⟩
        have HEZ : Hid (ecE ⟨nm, su, pool, fields, meths⟩ = 0) := hez
        rw [hez] at E
        clear hez
        by_cases hsm : ecB ⟨nm, su, pool, fields, meths⟩ = b
        case neg =>
          have HN : Hid (NoCls b) := fun c hc => by
            have e := HUN.out c hc
            subst e
            exact hsm (cls_ec hc).2
          have hne : bstr (ecB ⟨nm, su, pool, fields, meths⟩) ≠ bstr b := fun e => hsm (bstr_inj (ecB_by _) hl e)
          have hq := text_ne hne
          go_wp2_with fail
          refine E.mono ?_
          rintro x w9 ⟨vx, rfl, ox, f9⟩
          have hcx := conv_own w9 _ _ ox
          obtain ⟨xo, xn, xcap, rfl⟩ := ox.form
          have hR9 := f9.heap HI9.out.1.hR (fun f => f)
          have hfr9 := (FW.out _ HI9.out.1.fr).new f9 (fun _ _ f => f)
          have hcb := conv_text w9 qb qoff b.length cap b (Nat.le_refl _) (fun i c hi => hfr9.cell (HG4.out i c hi) (fun f => f))
          rw [List.take_length] at hcb
          generalize bstr (ecB ⟨nm, su, pool, fields, meths⟩) = sx at *
          generalize bstr b = sb at *
          obtain ⟨⟨y0, y1, y2, y3, y4⟩, x0, x1, x2, x3, x4⟩ := cells5z hR9
          have HL : Hid (_ ∧ _ ∧ NoCls b) := ⟨hR9, hfr9, HN.out⟩
          go_wp2_with fail
          have FF := fr_chain5 w9 R (.string ⟨#[]⟩) (.string ⟨#[]⟩) (.slice none 0 0) (.slice none 0 0) (.slice none 0 0)
          refine bodyPost_ret (results_9 _ R _ _ _ _ _ _ (set_chain5 HL.out.1) _ rfl rfl) rfl ?_
          exact told_mk zKs false rfl ⟨HL.out.2.1.trans FF (fun _ _ f => f) (fun i hi e => by have := HQR.out; omega), fun e => by simp at e, fun _ => HL.out.2.2⟩
        have HIS : Hid (isCls b ⟨nm, su, pool, fields, meths⟩) := cls_of HFK.out HEZ.out hsm
        rw [hsm] at E
        go_wp2_with fail
        refine E.mono ?_
        rintro x w9 ⟨vx, rfl, ox, f9⟩
        have hcx := conv_own w9 _ _ ox
        obtain ⟨xo, xn, xcap, rfl⟩ := ox.form
        have hfr9 := (FW.out _ HI9.out.1.fr).new f9 (fun _ _ f => f)
        have hcb := conv_text w9 qb qoff b.length cap b (Nat.le_refl _) (fun i c hi => hfr9.cell (HG4.out i c hi) (fun f => f))
        rw [List.take_length] at hcb
        have hR9 := f9.heap HI9.out.1.hR (fun f => f)
        clear c0 c1 c2 c3 c4 z0 z1 z2 z3 z4
        obtain ⟨⟨y0, y1, y2, y3, y4⟩, x0, x1, x2, x3, x4⟩ := cells5z hR9
        obtain ⟨⟨c0, c1, c2, c3, c4⟩, z0, z1, z2, z3, z4⟩ := cells5z (f9.heap HI9.out.1.hM (fun f => f))
        have HL : Hid (_ ∧ _ ∧ _) := ⟨hR9, hfr9, f9⟩
        generalize bstr b = sb at *
        clear hR9 hfr9 f9
        go_wp2_with fail
        have FF := fr_chain5 w9 R (.string nm) (.string su) (.slice pva pvn pvc) (.slice fva fvn fvc) (.slice mva mvn mvc)
        refine bodyPost_ret (results_9 _ R _ _ _ _ _ _ (set_chain5 HL.out.1) _ rfl rfl) rfl ?_
        have hRt : ∀ t, (28 : TypeId) ≠ t → ∀ k, k = R → ∀ cur t' fz, w9.heap[k]? = some (.cells cur t' fz) → t' ≠ t := fun t ht k hk cur t' fz hc => by subst hk; rw [HL.out.1] at hc; simp only [Option.some.injEq, Obj.cells.injEq] at hc; rw [← hc.2.1]; exact ht
        have r1 := (HI9.out.2.1.new HL.out.2.2).fin HL.out.1 (by decide) FF
        have r2 := (HI9.out.2.2.1.new HL.out.2.2).fin HL.out.1 (by decide) FF
        have r3 := (HI9.out.2.2.2.1.new HL.out.2.2).fin HL.out.1 (by decide) FF
        have r4 := (HI9.out.2.2.2.2.newB HL.out.2.2).but FF (fun k hk cur t fz hc => ⟨hRt 46 (by decide) k hk cur t fz hc, hRt 57 (by decide) k hk cur t fz hc, hRt 59 (by decide) k hk cur t fz hc⟩)
        exact told_mk ⟨nm, su, ⟨pva, pvn, pvc⟩, ⟨fva, fvn, fvc⟩, ⟨mva, mvn, mvc⟩⟩ true rfl ⟨HL.out.2.1.trans FF (fun _ _ f => f) (fun i hi e => by have := HQR.out; omega), fun _ => ⟨⟨nm, su, pool, fields, meths⟩, ⟨rfl, rfl, r1.sl okCs, r2.sl okFd, ys, r3.sl okMs, r4.at⟩, HIS.out⟩, fun e => by simp at e⟩
end Go.Proofs.YthncdbobjeeeaaaGreatDoor

