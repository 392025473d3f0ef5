/- What is below what; a type of references that fits Object. -/
import Derived.Test.YtalgjpmaafooeaaGreatDoorKam
namespace Go.Proofs.YtalgjpmaafooeaaGreatDoor
open Go.ChangeShapes Go.WideShapes Go.ChangeAt Go.RowKit
namespace H
set_option maxRecDepth 100000 in
set_option maxHeartbeats 1000000 in
theorem index_any (w : World) (v : Value) (l : List ByteArray) (h : SlG elS w v l) (s : ByteArray) :
 Calls Tryz.prog 156 #[v, .string s] w fun e w' => ∃ z : Int, e = .returned (.int .i64 z) ∧ decide (0 ≤ z) = inL s l ∧ w' = w := by
 obtain ⟨ad, cp, rfl, hcap, hmx, -, hit⟩ := h
 unfold maxLen at hmx
 have HI : Hid (∀ (i : Nat) (x : ByteArray), l[i]? = some x → ∃ b off, ad = some ⟨b, off, none⟩ ∧ w.cell? ⟨b, off + i, none⟩ = some (.string x)) := hit
 clear hit
 go_enter Tryz.func156, Tryz.ntmps156
 go_wp2_with fail
 go_loop [8] (fun i => ∃ (k : Nat), i = .int .i64 (k : Int) ∧ k ≤ l.length ∧ inL s (l.take k) = false) (fun i => l.length - (intOf i).toNat)
 case atStart => exact ⟨0, rfl, by omega, rfl⟩
 case round =>
  obtain ⟨k, rfl, hk, hall⟩ := hrel
  have HA : Hid (inL s (l.take k) = false) := hall
  clear hall
  by_cases hlt : k < l.length
  · obtain ⟨x, hx⟩ : ∃ x, l[k]? = some x := ⟨_, List.getElem?_eq_getElem hlt⟩
    obtain ⟨b, off, rfl, hc⟩ := HI.out k x hx
    have HX : Hid (l[k]? = some x) := hx
    clear hx
    have hlt' : (k : Int) < (l.length : Int) := by omega
    have hq := streq s x
    by_cases hn : s = x
    · rw [decide_eq_true hn] at hq
      have HT : Hid (inL s l = true) := inL_iff.2 (hn ▸ List.mem_of_getElem? HX.out)
      clear hn
      go_wp2_with fail
      go_ret
      refine ⟨_, rfl, ?_, rfl⟩
      rw [HT.out]
      simp
    · rw [decide_eq_false hn] at hq
      have HT : Hid (inL s (l.take (k + 1)) = false) := by
       show _ = _
       rw [take_next l k x HX.out]
       have := HA.out
       unfold inL at this ⊢
       rw [List.any_append, this]
       simp [Ne.symm hn]
      clear hn
      go_wp2_with fail
      go_round
      case rel => exact ⟨k + 1, by go_num, by omega, HT.out⟩
      case measure => simp [intOf]; omega
  · have hkl : k = l.length := by omega
    subst hkl
    have HT : Hid (inL s l = false) := by
     have := HA.out
     rwa [List.take_length] at this
    go_wp2_with fail
    go_ret
    refine ⟨_, rfl, ?_, rfl⟩
    rw [HT.out]
    rfl
theorem contains_any (w : World) (v : Value) (l : List ByteArray) (h : SlG elS w v l) (s : ByteArray) :
 Calls Tryz.prog 155 #[v, .string s] w fun e w' => e = .returned (.bool (inL s l)) ∧ w' = w := by
 have I := index_any w v l h s
 clear h
 generalize inL s l = b at *
 go_enter Tryz.func155, Tryz.ntmps155
 go_wp2_with fail
 refine I.mono ?_
 rintro e w1 ⟨z, rfl, hz, rfl⟩
 have HZ : Hid (decide (0 ≤ z) = b) := hz
 clear hz
 go_wp2_with fail
 go_ret
 rw [← HZ.out]
 exact ⟨rfl, rfl⟩
theorem sub_any {c : Nat} (w : World) (p : Nat) (N : List ByteArray) (A : List Nat) (h : HB c w p N A) (hA : Fine N.length A) (hN : N.length ≤ 1000) (s t : ByteArray) (hs : s.size ≤ 1099511627776) :
 Calls Tryz.prog 154 #[.pointer (some ⟨p, 0, none⟩), .string s, .string t] w fun e w' => e = .returned (.bool (inL t (anc N A s))) ∧ Fr no w w' := by
 have C := ancestors_any w p N A h hA hN s hs
 clear h hA hN
 generalize anc N A s = l at *
 go_enter Tryz.func154, Tryz.ntmps154
 go_wp2_with fail
 refine C.mono ?_
 rintro e w1 ⟨v, rfl, o1, -, f1⟩
 have I := contains_any w1 v l o1.sl t
 have F1 : Hid (Fr no w w1) := f1
 clear o1 f1
 go_wp2_with fail
 refine I.mono ?_
 rintro e w2 ⟨rfl, rfl⟩
 go_wp2_with fail
 go_ret
 exact ⟨rfl, F1.out⟩
end H
def FitQ (w : World) (q : Value) : Prop := ∀ w', Fr no w w' → Calls Tryz.prog 154 #[q, .string sMain, .string H.obj] w' fun e w2 => e = .returned (.bool true) ∧ Fr no w' w2
theorem FitQ.keep {w w' : World} {q : Value} (h : FitQ w q) (hf : Fr no w w') : FitQ w' q := fun w2 h2 => h w2 (hf.new h2 (fun _ _ f => f))
theorem fitQ_of {c : Nat} (w : World) (p : Nat) (N : List ByteArray) (A : List Nat) (h : H.HB c w p N A) (hA : H.Fine N.length A) (hN : N.length ≤ 1000) (hm : H.inL H.obj (H.anc N A sMain) = true) : FitQ w (.pointer (some ⟨p, 0, none⟩)) := fun w' hf => by
 have := H.sub_any w' p N A (h.keep hf) hA hN sMain H.obj (by decide)
 rwa [hm] at this
def fitO (a : Ty) : Bool := decide (a.k = 5 ∨ a.k = 4)
end Go.Proofs.YtalgjpmaafooeaaGreatDoor
/- Whether an instruction may read its local. -/
namespace Go.Proofs.YtalgjpmaafooeaaGreatDoor
open Go.ChangeShapes Go.WideShapes Go.ChangeAt Go.RowKit
open H (ix NewV)
def readE (op a : Int) (lo : List Ty) : Int := if (op = 4 ∨ op = 38 ∨ op = 39) ∧ ((lo.getD a.toNat top).k = 6) then 82 else if (op = 38 ∨ op = 39) ∧ fitO (lo.getD a.toNat top) = false then 80 else 0
def rd38 (ins : Int × Int) (_lo : List Ty) : Prop := (ins.1 = 38 ∨ ins.1 = 39) → False
instance (ins : Int × Int) (lo : List Ty) : Decidable (rd38 ins lo) := by unfold rd38; infer_instance
section
variable {ops : Array Oper} {Q : Exit → Act → World → Prop} {S : World → Prop} {g : Nat}
theorem late_new {i : Nat} {o : Oper} {a : Act} {w W : World} {K : Act → World → Prop} (hi : ops[i]? = some o) (zs : Array Value) (t : TypeId) (g : Fr no W w) (hK : ∀ w2 b, w2.heap[b]? = some (.cells zs t (0, 0)) → Fr no w w2 → Fr no W w2 → W.heap.size ≤ b → K (a.put o.dst (.pointer (some ⟨b, 0, none⟩))) w2)
 (hg : o.guard = none := by kernel_rfl) (h : (execOp a.eval o).run Tryz.prog w = .ok (.value (.pointer (some ⟨w.heap.size, 0, none⟩))) (w.alloc (.cells zs t)) := by kernel_rfl) : wpOp Tryz.prog ops Q i K a w :=
 late_op hi hg h (hK _ _ (heap_alloc_new w _) ((Fr.refl no w).alloc _ _) (g.alloc _ _) g.size)
theorem late_at {n : Nat} {L L' : Array Bool} {a a' : Act} {w : World} (hL : L = L') (ha : a = a') (h : wpLate ops Q S g n L' a' w) : wpLate ops Q S g n L a w := by
 rw [hL, ha]
 exact h
theorem with_cont {n m : Nat} {L0 : Array Bool} {a0 : Act} {w0 : World} (α : Type) (L' : Array Bool) (A : α → Act) (F : α → World → Prop) (cont : ∀ x w', F x w' → wpLate ops Q S g m L' (A x) w')
 (k : (∀ x w', F x w' → wpLate ops Q S g m L' (A x) w') → wpLate ops Q S g n L0 a0 w0) : wpLate ops Q S g n L0 a0 w0 := k cont
theorem two_of {j a b : Nat} (h : j ∈ [a, b]) : j = a ∨ j = b := by simpa using h
variable {n : Nat} {L : Array Bool} {a : Act} {w : World}
theorem lateP (i : Nat) (v : Value) {oi : Oper} (hi : ops[i]? = some oi) (he : ∀ w, (execOp a.eval oi).run Tryz.prog w = .ok (.value v) w) (hS : L.getD g true = false → S w) (h : wpLate ops Q S g n (L.setIfInBounds i true) (a.put oi.dst v) w)
 (hg : oi.guard = none := by kernel_rfl) (hs : Region.noSelect ops = true := by kernel_rfl) (hf : Region.free .any ops L i = true := by kernel_rfl) (hr : (Region.ready .any ops L).contains i = true := by kernel_rfl) (hgi : i ≠ g := by decide)
 (hQ : ∀ c a w, Q (.panic c) (a.put oi.dst v) w → Q (.panic c) a w := by exact fun _ _ _ h => h) : wpLate ops Q S g (n + 1) L a w :=
 late_pure i v hi hs hf hr hQ hgi (yields hg (fun w _ => he w)) hS h
theorem lateT (i : Nat) (v : Value) {oi : Oper} (hi : ops[i]? = some oi) (he : ∀ w, S w → (execOp a.eval oi).run Tryz.prog w = .ok (.value v) w) (hS : S w) (h : wpLate ops Q S g n (L.setIfInBounds i true) (a.put oi.dst v) w)
 (hg : oi.guard = none := by kernel_rfl) (hs : Region.noSelect ops = true := by kernel_rfl) (hf : Region.free .any ops L i = true := by kernel_rfl) (hr : (Region.ready .any ops L).contains i = true := by kernel_rfl) (hgi : i ≠ g := by decide) (hw : waitsB ops g i = true := by kernel_rfl) (hgu : L.getD g true = false := by kernel_rfl)
 (hQ : ∀ c a w, Q (.panic c) (a.put oi.dst v) w → Q (.panic c) a w := by exact fun _ _ _ h => h) : wpLate ops Q S g (n + 1) L a w :=
 late_take i v hi hs hf hr hQ (waits_of hw) hgi hgu (yields hg he) hS h
theorem lateN (L' : Array Bool) (a' : Act) (h : wpLate ops Q S g n L' a' w) (hL : L = L' := by kernel_rfl) (ha : a = a' := by kernel_rfl) : wpLate ops Q S g n L a w := late_at hL ha h
end
set_option maxRecDepth 100000 in
set_option maxHeartbeats 2000000 in
theorem mayRead_any (w : World) (f : Nat) (op a : Int) (v : Value) (lo : List Ty) (hv : SlG elTy w v lo) (q : Value) (hq : w.cell? ⟨f, 0, none⟩ = some q) (hQ : FitQ w q) (h38 : rd38 (op, a) lo) (ha : op = 4 → 0 ≤ a ∧ a < lo.length) :
 Calls Tryz.prog 149 #[.pointer (some ⟨f, 0, none⟩), .agg #[.int .i64 op, .int .i64 a], v] w fun e w' => e = .returned (.int .i64 (readE op a lo)) ∧ Fr no w w' := by
 obtain ⟨ad, cap, rfl, hl, hc, hit⟩ := hv
 have HI : Hid _ := hit
 clear hit
 have F : Fr no w (w.alloc (.cells #[.int .i64 op, .int .i64 a] 27)) := (Fr.refl no w).alloc _ _
 by_cases h4 : op = 4
 · subst h4
   obtain ⟨ha1, ha2⟩ := ha rfl
   obtain ⟨n, rfl⟩ : ∃ n : Nat, a = (n : Int) := ⟨a.toNat, by omega⟩
   obtain ⟨t, ht⟩ : ∃ t, lo[n]? = some t := ⟨_, List.getElem?_eq_getElem (by omega)⟩
   obtain ⟨b, off, rfl, hcell⟩ := HI.out n t ht
   have d0 := F.cell (hcell 0 _ rfl) (fun f => f)
   have d1 := F.cell (hcell 1 _ rfl) (fun f => f)
   simp only [elTy, Nat.add_zero] at d0 d1
   have hE : readE 4 (n : Int) lo = if t.k = 6 then 82 else 0 := by
    unfold readE
    rw [Int.toNat_natCast, List.getD_eq_getElem?_getD, ht, Option.getD_some]
    simp
   clear hq hQ h38
   have HE : Hid _ := hE
   have IT := isTop_any (w.alloc (.cells #[.int .i64 4, .int .i64 (n : Int)] 27)) t
   have HF : Hid _ := F
   have E0 : (w.alloc (.cells #[.int .i64 4, .int .i64 (n : Int)] 27)).heap[w.heap.size]? = some (.cells #[.int .i64 4, .int .i64 (n : Int)] 27 (0, 0)) := heap_alloc_new w _
   have z0 := cell_at (o := 0) E0
   have z1 := cell_at (o := 1) E0
   simp only [List.getElem?_toArray, List.getElem?_cons_zero, List.getElem?_cons_succ] at z0 z1
   have hnm : (n : Int) < (lo.length : Int) := by omega
   have HK : Hid (∀ w', Fr no (w.alloc (.cells #[.int .i64 4, .int .i64 (n : Int)] 27)) w' → w'.cell? ⟨w.heap.size, 0, none⟩ = some (.int .i64 4)) := fun w' hf => hf.cell z0 (fun f => f)
   generalize hlen : lo.length = m at *
   clear hE F hcell E0
   unfold tyV at IT
   generalize hW : w.alloc (.cells #[.int .i64 4, .int .i64 (n : Int)] 27) = W at *
   by_cases h6 : t.k = 6
   · have HE' : Hid (readE 4 (n : Int) lo = 82) := by show _ = _; rw [HE.out, if_pos h6]
     rw [decide_eq_true h6] at IT
     clear h6
     go_enter Tryz.func149, Tryz.ntmps149
     go_wp2_with fail
     refine IT.mono ?_
     rintro e w2 ⟨rfl, f2⟩
     go_wp2_with fail
     go_ret
     rw [HE'.out]
     exact ⟨rfl, HF.out.new f2 (fun _ _ f => f)⟩
   · have HE' : Hid (readE 4 (n : Int) lo = 0) := by show _ = _; rw [HE.out, if_neg h6]
     rw [decide_eq_false h6] at IT
     go_enter Tryz.func149, Tryz.ntmps149
     go_wp2_with fail
     refine IT.mono ?_
     rintro e w2 ⟨rfl, f2⟩
     have zz := HK.out w2 f2
     clear IT
     go_wp2_with fail
     go_region
     go_wp2_with fail
     go_ret
     rw [HE'.out]
     exact ⟨rfl, HF.out.new f2.drew (fun _ _ f => f)⟩
 · by_cases hop : op = 38 ∨ op = 39
   · exact ((fun _ _ => h38 hop) hq hQ : False).elim
   · have hq38 : (op != 38) = true := by simp; omega
     have hq39 : (op != 39) = true := by simp; omega
     clear hq hQ h38
     have h4' : (op != 4) = true := by simpa using h4
     have HE : Hid (readE op a lo = 0) := by show _ = _; unfold readE; rw [if_neg (fun e => by have := e.1; omega), if_neg (fun e => hop e.1)]
     have HF : Hid _ := F
     clear F
     generalize hlen : lo.length = m at *
     go_enter Tryz.func149, Tryz.ntmps149
     go_wp2_with fail
     go_ret
     rw [HE.out]
     exact ⟨rfl, HF.out⟩
end Go.Proofs.YtalgjpmaafooeaaGreatDoor
/- A method's states while they settle, in memory. -/
namespace Go.Proofs.YtalgjpmaafooeaaGreatDoor
open Go.ChangeShapes Go.WideShapes Go.ChangeAt Go.RowKit
open H (ix NewV)
structure Rl where
 nv : Bool
 tk : List Ty
 pt : List Ty
structure Stt where
 r : Bool
 lo : List Ty
 st : List Ty
def Tn (S C c : Nat) : Nat → Prop := fun b => b = S ∨ b = C ∨ c ≤ b
structure Con (w : World) (f S C : Nat) (K : Int) (cd : List (Int × Int)) (rl : List Rl) : Prop where
 hq : ∃ q, w.cell? ⟨f, 0, none⟩ = some q ∧ FitQ w q
 st : w.cell? ⟨f, 6, none⟩ = some (.int .i64 K)
 code : ∃ b o cc, w.cell? ⟨f, 7, none⟩ = some (.slice (some ⟨b, o, none⟩) cd.length cc) ∧ cd.length ≤ cc ∧ ∀ (i : Nat) (x : Int × Int), cd[i]? = some x → w.cell? ⟨b, o + i * 2, none⟩ = some (.int .i64 x.1) ∧ w.cell? ⟨b, o + i * 2 + 1, none⟩ = some (.int .i64 x.2)
 hands : ∃ q cc, w.cell? ⟨f, 8, none⟩ = some (.slice q 0 cc)
 rules : ∃ (R : Nat) (rs : List Ru), w.cell? ⟨f, 10, none⟩ = some (.slice (some ⟨R, 0, none⟩) cd.length cd.length) ∧ SlG elRu w (.slice (some ⟨R, 0, none⟩) cd.length cd.length) rs ∧ rs.length = cd.length ∧ rl.length = cd.length ∧
  ∀ (i : Nat) (s : Ru) (x : Rl), rs[i]? = some s → rl[i]? = some x → s.nv = x.nv ∧ SlG elTy w (.slice s.tk.a s.tk.n s.tk.c) x.tk ∧ SlG elTy w (.slice s.pt.a s.pt.n s.pt.c) x.pt ∧ (s.pt.a = none → s.pt.c = 0)
 states : w.cell? ⟨f, 11, none⟩ = some (.slice (some ⟨S, 0, none⟩) cd.length cd.length)
 marks : w.cell? ⟨f, 12, none⟩ = some (.slice (some ⟨C, 0, none⟩) cd.length cd.length)
 tr : Tr w
 few : 0 < cd.length ∧ cd.length ≤ 200
structure StAt (c : Nat) (w : World) (s : Sa) (x : Stt) : Prop where
 r : s.r = x.r
 lo : x.r = true → OwnG elTy w (.slice s.lo.a s.lo.n s.lo.c) x.lo ∧ ∀ g, (Value.slice s.lo.a s.lo.n s.lo.c).ownBlock = some g → c ≤ g
 st : x.r = true → OwnG elTy w (.slice s.st.a s.st.n s.st.c) x.st ∧ ∀ g, (Value.slice s.st.a s.st.n s.st.c).ownBlock = some g → c ≤ g
 ne : x.r = true → ∀ g, (Value.slice s.lo.a s.lo.n s.lo.c).ownBlock = some g → (Value.slice s.st.a s.st.n s.st.c).ownBlock ≠ some g
 few : x.lo.length ≤ 1000 ∧ x.st.length ≤ 1000
structure Fl (w : World) (S C c n : Nat) (xs : List Stt) (ch : List Bool) : Prop where
 ex : ∃ ss : List Sa, OwnG elSa w (.slice (some ⟨S, 0, none⟩) n n) ss ∧ ss.length = n ∧ (∀ (i : Nat) (s : Sa) (x : Stt), ss[i]? = some s → xs[i]? = some x → StAt c w s x) ∧
  ∀ (i j : Nat) (s t : Sa) (x y : Stt), i ≠ j → ss[i]? = some s → ss[j]? = some t → xs[i]? = some x → xs[j]? = some y → x.r = true → y.r = true → ∀ g, (Value.slice s.lo.a s.lo.n s.lo.c).ownBlock = some g → (Value.slice t.lo.a t.lo.n t.lo.c).ownBlock ≠ some g ∧ (Value.slice t.st.a t.st.n t.st.c).ownBlock ≠ some g
 marks : H.OwnG elB w (.slice (some ⟨C, 0, none⟩) n n) ch
 lx : xs.length = n
 lc : ch.length = n
 lt : S < c ∧ C < c ∧ S ≠ C
theorem Fl.keep {w w' : World} {S C c n : Nat} {xs : List Stt} {ch : List Bool} (h : Fl w S C c n xs ch) (hf : Fr no w w') : Fl w' S C c n xs ch := by
 obtain ⟨⟨ss, h1, h2, h3, h4⟩, h5, h6, h7, h8⟩ := h
 refine ⟨⟨ss, h1.keep hf, h2, fun i s x hs hx => ?_, h4⟩, h5.keep hf, h6, h7, h8⟩
 obtain ⟨a1, a2, a3, a4, a5⟩ := h3 i s x hs hx
 exact ⟨a1, fun e => ⟨(a2 e).1.keep hf, (a2 e).2⟩, fun e => ⟨(a3 e).1.keep hf, (a3 e).2⟩, a4, a5⟩
def runErr (r : Rl) (i : Int × Int) (x : Stt) : Int :=
 if r.nv = true then 80
 else if x.st.length < r.tk.length then 81
 else if (List.range r.tk.length).all (fun j => fitT (x.st.getD (x.st.length - r.tk.length + j) top) (r.tk.getD j top)) = true then readE i.1 i.2 x.lo else 80
end Go.Proofs.YtalgjpmaafooeaaGreatDoor
/- Whether an instruction may run in its state. -/
namespace Go.Proofs.YtalgjpmaafooeaaGreatDoor
open Go.ChangeShapes Go.WideShapes Go.ChangeAt Go.RowKit
open H (ix NewV)
theorem Con.keep {w w' : World} {f S C : Nat} {K : Int} {cd : List (Int × Int)} {rl : List Rl} (h : Con w f S C K cd rl) (hf : Fr no w w') : Con w' f S C K cd rl := by
 obtain ⟨⟨q, h1, h1b⟩, h2, ⟨b, o, cc, c1, c2, c3⟩, ⟨q', cc', h4⟩, ⟨R, rs, r1, r2, r3, r4, r5⟩, h6, h7, h8, h9⟩ := h
 have k : ∀ {p : Addr} {u : Value}, w.cell? p = some u → w'.cell? p = some u := fun hc => hf.cell hc (fun f => f)
 exact ⟨⟨q, k h1, h1b.keep hf⟩, k h2, ⟨b, o, cc, k c1, c2, fun i x hx => ⟨k (c3 i x hx).1, k (c3 i x hx).2⟩⟩, ⟨q', cc', k h4⟩, ⟨R, rs, k r1, r2.kept hf, r3, r4, fun i s x hs hx => ⟨(r5 i s x hs hx).1, (r5 i s x hs hx).2.1.kept hf, (r5 i s x hs hx).2.2.1.kept hf, (r5 i s x hs hx).2.2.2⟩⟩, k h6, k h7, h8.kept hf, h9⟩
theorem ty_at {w : World} {v : Value} {l : List Ty} (h : SlG elTy w v l) {i : Nat} {t : Ty} (hi : l[i]? = some t) : ∃ b off cap, v = .slice (some ⟨b, off, none⟩) l.length cap ∧ w.cell? ⟨b, off + i * 2, none⟩ = some (.int .i64 t.k) ∧ w.cell? ⟨b, off + i * 2 + 1, none⟩ = some (.string t.c) := by
 obtain ⟨ad, cap, rfl, -, -, hit⟩ := h
 obtain ⟨b, off, rfl, hc⟩ := hit i t hi
 exact ⟨b, off, cap, rfl, hc 0 _ rfl, hc 1 _ rfl⟩
set_option maxRecDepth 100000 in
set_option maxHeartbeats 4000000 in
theorem mayRun_any (w : World) (f S C c : Nat) (K : Int) (cd : List (Int × Int)) (rl : List Rl) (xs : List Stt) (ch : List Bool) (CN : Con w f S C K cd rl) (FL : Fl w S C c cd.length xs ch)
 (i : Nat) (x : Stt) (hx : xs[i]? = some x) (hr : x.r = true) (r : Rl) (hrl : rl[i]? = some r) (hfit : ∀ t ∈ r.tk, t.k = 1 ∨ t.k = 2 ∨ t.k = 6) (ins : Int × Int) (hins : cd[i]? = some ins)
 (h38 : rd38 ins x.lo) (h4 : ins.1 = 4 → 0 ≤ ins.2 ∧ ins.2 < x.lo.length) (hfew : r.tk.length ≤ 1000) :
 Calls Tryz.prog 140 #[.pointer (some ⟨f, 0, none⟩), .int .i64 (i : Int)] w fun e w' => e = .returned (.int .i64 (runErr r ins x)) ∧ Fr no w w' := by
 have hil : i < cd.length := (List.getElem?_eq_some_iff.1 hins).1
 obtain ⟨⟨q, a0, fo⟩, -, ⟨cb, co, cc, a7, cc1, hcode⟩, -, ⟨R, rs, a10, rs1, rs2, -, rs4⟩, a11, -, -, hfewc⟩ := CN
 obtain ⟨ss, s1, s2, s3, -⟩ := FL.ex
 obtain ⟨sx, hsx⟩ : ∃ sx, ss[i]? = some sx := ⟨_, List.getElem?_eq_getElem (by omega)⟩
 obtain ⟨ru, hru⟩ : ∃ ru, rs[i]? = some ru := ⟨_, List.getElem?_eq_getElem (by omega)⟩
 obtain ⟨rn, rtk, rpt⟩ := rs4 i ru r hru hrl
 have SA := s3 i sx x hsx hx
 have slo := (SA.lo hr).1.sl okTy
 have sst := (SA.st hr).1.sl okTy
 have hxf := SA.few
 obtain ⟨ad, cap, e, -, -, hit⟩ := s1.sl okSa
 simp only [Value.slice.injEq] at e
 obtain ⟨rfl, -, -⟩ := e
 obtain ⟨b, off, e, hcs⟩ := hit i sx hsx
 simp only [Option.some.injEq, Addr.mk.injEq, and_true] at e
 obtain ⟨rfl, rfl⟩ := e
 obtain ⟨ad, cap', e, -, -, hitr⟩ := rs1
 simp only [Value.slice.injEq] at e
 obtain ⟨rfl, -, -⟩ := e
 obtain ⟨b', off', e, hcr⟩ := hitr i ru hru
 simp only [Option.some.injEq, Addr.mk.injEq, and_true] at e
 obtain ⟨rfl, rfl⟩ := e
 have d0 := hcs 0 _ rfl
 have d1 := hcs 1 _ rfl
 have d2 := hcs 2 _ rfl
 have d3 := hcs 3 _ rfl
 have g0 := hcr 0 _ rfl
 have g1 := hcr 1 _ rfl
 have g2 := hcr 2 _ rfl
 simp only [elSa, elRu, Nat.add_zero, Nat.zero_add] at d0 d1 d2 d3 g0 g1 g2
 have hii : (i : Int) < (cd.length : Int) := by omega
 have hsr : sx.r = true := SA.r.trans hr
 have HCO := hcode i ins hins
 clear hcs hcr hit hitr hcode s3 rs4 SA FL rpt s1 hsx hru hx hrl hins
 obtain ⟨nv, ⟨ta, tn, tc⟩, ⟨pa, pn, pc⟩⟩ := ru
 obtain ⟨sr, ⟨la, ln, lc⟩, ⟨sa, sn, sc⟩, ⟨ka, kn, kc⟩⟩ := sx
 simp only at rn rtk slo sst hsr d0 d1 d2 d3 g0 g1 g2
 obtain rfl : tn = r.tk.length := by obtain ⟨_, _, e, _⟩ := rtk; simp only [Value.slice.injEq] at e; exact e.2.1
 obtain rfl : ln = x.lo.length := by obtain ⟨_, _, e, _⟩ := slo; simp only [Value.slice.injEq] at e; exact e.2.1
 obtain rfl : sn = x.st.length := by obtain ⟨_, _, e, _⟩ := sst; simp only [Value.slice.injEq] at e; exact e.2.1
 subst hsr rn
 have HK : Hid (SlG elTy w (.slice ta r.tk.length tc) r.tk ∧ SlG elTy w (.slice la x.lo.length lc) x.lo ∧ SlG elTy w (.slice sa x.st.length sc) x.st ∧ (w.cell? ⟨cb, co + i * 2, none⟩ = some (.int .i64 ins.1) ∧ w.cell? ⟨cb, co + i * 2 + 1, none⟩ = some (.int .i64 ins.2)) ∧ w.cell? ⟨f, 7, none⟩ = some (.slice (some ⟨cb, co, none⟩) cd.length cc) ∧ w.cell? ⟨f, 0, none⟩ = some q) := ⟨rtk, slo, sst, HCO, a7, a0⟩
 have HFIT : Hid _ := hfit
 have HH4 : Hid _ := h4
 have HH38 : Hid (rd38 ins x.lo) := h38
 have HFO : Hid (FitQ w q) := fo
 clear rtk slo sst HCO a7 a0 hfit h4 h38 fo
 have k1 : ∀ {p : Addr} {u : Value}, w.cell? p = some u → ∀ c t, (w.alloc (.cells c t)).cell? p = some u := fun hc c t => ((Fr.refl no w).alloc c t).cell hc (fun f => f)
 have k2 : ∀ {p : Addr} {u : Value}, w.cell? p = some u → ∀ c t c' t', ((w.alloc (.cells c t)).alloc (.cells c' t')).cell? p = some u := fun hc c t c' t' => (((Fr.refl no w).alloc c t).alloc c' t').cell hc (fun f => f)
 have a10' := k1 a10
 have a10'' := k2 a10
 have a11' := k1 a11
 have a11'' := k2 a11
 have d0' := k1 d0
 have d0'' := k2 d0
 have d1' := k1 d1
 have d1'' := k2 d1
 have d2' := k1 d2
 have d2'' := k2 d2
 have d3' := k1 d3
 have d3'' := k2 d3
 have g0' := k1 g0
 have g0'' := k2 g0
 have g1' := k1 g1
 have g1'' := k2 g1
 have g2' := k1 g2
 have g2'' := k2 g2
 clear k1 k2
 generalize hcl : cd.length = n at *
 go_enter Tryz.func140, Tryz.ntmps140
 go_wp2_with fail
 go_region
 · clear a10' a11' d0' d1' d2' d3' g0' g1' g2' a10'' a11'' d0'' d1'' d2'' d3'' g0'' g1'' g2''
   have FW : Fr no w ((w.alloc (.cells #[.bool r.nv, .slice ta r.tk.length tc, .slice pa pn pc] 195)).alloc (.cells #[.bool true, .slice la x.lo.length lc, .slice sa x.st.length sc, .slice ka kn kc] 67)).drew := (((Fr.refl no w).alloc _ _).alloc _ _).drew
   have EB : ((w.alloc (.cells #[.bool r.nv, .slice ta r.tk.length tc, .slice pa pn pc] 195)).alloc (.cells #[.bool true, .slice la x.lo.length lc, .slice sa x.st.length sc, .slice ka kn kc] 67)).drew.heap[w.heap.size]? = some (.cells #[.bool r.nv, .slice ta r.tk.length tc, .slice pa pn pc] 195 (0, 0)) := ((Fr.refl no (w.alloc (.cells #[.bool r.nv, .slice ta r.tk.length tc, .slice pa pn pc] 195))).alloc _ _).drew.heap (heap_alloc_new w _) (fun f => f)
   have ES : ((w.alloc (.cells #[.bool r.nv, .slice ta r.tk.length tc, .slice pa pn pc] 195)).alloc (.cells #[.bool true, .slice la x.lo.length lc, .slice sa x.st.length sc, .slice ka kn kc] 67)).drew.heap[w.heap.size + 1]? = some (.cells #[.bool true, .slice la x.lo.length lc, .slice sa x.st.length sc, .slice ka kn kc] 67 (0, 0)) := by have := heap_alloc_new (w.alloc (.cells #[.bool r.nv, .slice ta r.tk.length tc, .slice pa pn pc] 195)) (.cells #[.bool true, .slice la x.lo.length lc, .slice sa x.st.length sc, .slice ka kn kc] 67); rw [size_alloc] at this; exact this
   generalize ((w.alloc (.cells #[.bool r.nv, .slice ta r.tk.length tc, .slice pa pn pc] 195)).alloc (.cells #[.bool true, .slice la x.lo.length lc, .slice sa x.st.length sc, .slice ka kn kc] 67)).drew = W at *
   have b0 := cell_at (o := 0) EB
   have b1 := cell_at (o := 1) EB
   have e1 := cell_at (o := 1) ES
   have e2 := cell_at (o := 2) ES
   simp only [List.getElem?_toArray, List.getElem?_cons_zero, List.getElem?_cons_succ] at b0 b1 e1 e2
   have HW : Hid (Fr no w W ∧ W.heap[w.heap.size]? = some (.cells #[.bool r.nv, .slice ta r.tk.length tc, .slice pa pn pc] 195 (0, 0)) ∧ W.heap[w.heap.size + 1]? = some (.cells #[.bool true, .slice la x.lo.length lc, .slice sa x.st.length sc, .slice ka kn kc] 67 (0, 0))) := ⟨FW, EB, ES⟩
   clear FW EB ES
   cases hnv : r.nv with
   | true =>
    have HE : Hid (runErr r ins x = 80) := by show _ = _; unfold runErr; rw [if_pos hnv]
    rw [hnv] at b0
    clear hnv
    go_wp2_with fail
    go_ret
    rw [HE.out]
    exact ⟨rfl, HW.out.1⟩
   | false =>
    rw [hnv] at b0
    have HNV : Hid _ := hnv
    clear hnv
    by_cases hlen : x.st.length < r.tk.length
    · have HE : Hid (runErr r ins x = 81) := by show _ = _; unfold runErr; rw [if_neg (by rw [HNV.out]; simp), if_pos hlen]
      have hlt : (x.st.length : Int) - (r.tk.length : Int) < 0 := by omega
      go_wp2_with fail
      go_ret
      rw [HE.out]
      exact ⟨rfl, HW.out.1⟩
    · have hlt : ¬ (x.st.length : Int) - (r.tk.length : Int) < 0 := by omega
      have HE : Hid (runErr r ins x = if (List.range r.tk.length).all (fun j => fitT (x.st.getD (x.st.length - r.tk.length + j) top) (r.tk.getD j top)) = true then readE ins.1 ins.2 x.lo else 80) := by show _ = _; unfold runErr; rw [if_neg (by rw [HNV.out]; simp), if_neg hlen]
      generalize htk : r.tk.length = m at *
      generalize hst : x.st.length = sp at *
      generalize hlo : x.lo.length = lp at *
      obtain ⟨lf, hlf⟩ : ∃ lf : Nat, sp = lf + m := ⟨sp - m, by omega⟩
      have hsub : (sp : Int) - (m : Int) = (lf : Int) := by omega
      have hsm : m ≤ 1000 ∧ sp ≤ 1000 := by omega
      rw [show sp - m = lf by omega] at HE
      have HLF : Hid (sp = lf + m) := hlf
      clear hlf
      go_wp2_with fail
      go_loopw [38] (fun i wr => ∃ k : Nat, i = .int .i64 (k : Int) ∧ k ≤ m ∧ Fr no W wr ∧ ∀ j, j < k → fitT (x.st.getD (lf + j) top) (r.tk.getD j top) = true) (fun i _ => m - (intOf i).toNat)
      case atStart => exact ⟨0, rfl, Nat.zero_le _, Fr.refl _ _, fun j hj => by omega⟩
      case round =>
       obtain ⟨k, rfl, hkm, fr, hall⟩ := hrel
       by_cases hlt2 : k < m
       · have hki : (k : Int) < (m : Int) := by omega
         have fw := HW.out.1.new fr (fun _ _ f => f)
         obtain ⟨t, ht⟩ : ∃ t, r.tk[k]? = some t := ⟨_, List.getElem?_eq_getElem (by omega)⟩
         obtain ⟨y, hy⟩ : ∃ y, x.st[lf + k]? = some y := ⟨_, List.getElem?_eq_getElem (by have := HLF.out; omega)⟩
         obtain ⟨tb, toff, tcap, e, u0, u1⟩ := ty_at (HK.out.1.kept fw) ht
         simp only [Value.slice.injEq] at e
         obtain ⟨rfl, -, rfl⟩ := e
         obtain ⟨sb, soff, scap, e, v0, v1⟩ := ty_at (HK.out.2.2.1.kept fw) hy
         simp only [Value.slice.injEq] at e
         obtain ⟨rfl, -, rfl⟩ := e
         have hft := HFIT.out t (List.mem_of_getElem? ht)
         have hgt : r.tk.getD k top = t := by rw [List.getD_eq_getElem?_getD, ht]; rfl
         have hgy : x.st.getD (lf + k) top = y := by rw [List.getD_eq_getElem?_getD, hy]; rfl
         have hlf := HLF.out
         have hidx0 : (0 : Int) ≤ (lf : Int) + (k : Int) := by omega
         have hidx : (lf : Int) + (k : Int) < (sp : Int) := by omega
         have htn : ((lf : Int) + (k : Int)).toNat = lf + k := by omega
         have hwrap : IntKind.i64.wrap ((lf : Int) + (k : Int)) = (lf : Int) + (k : Int) := IntWalk.i64_in _ (by omega)
         generalize hW9 : wr.alloc (.cells #[.int .i64 t.k, .string t.c] 44) = W9
         have G9 : Fr no wr W9 := by rw [← hW9]; exact (Fr.refl no wr).alloc _ _
         have E9 : W9.heap[wr.heap.size]? = some (.cells #[.int .i64 t.k, .string t.c] 44 (0, 0)) := by rw [← hW9]; exact heap_alloc_new wr _
         have KS : ∀ w2, Fr no W9 w2 → Fr no W9 w2 ∧ w2.cell? ⟨w.heap.size + 1, 2, none⟩ = some (.slice (some ⟨sb, soff, none⟩) sp sc) ∧ w2.cell? ⟨sb, soff + (lf + k) * 2, none⟩ = some (.int .i64 y.k) ∧ w2.cell? ⟨sb, soff + (lf + k) * 2 + 1, none⟩ = some (.string y.c) ∧ w2.cell? ⟨wr.heap.size, 0, none⟩ = some (.int .i64 t.k) ∧ w2.cell? ⟨wr.heap.size, 1, none⟩ = some (.string t.c) := fun w2 h2 =>
          ⟨h2, h2.cell (G9.cell (fr.cell (cell_at HW.out.2.2) (fun f => f)) (fun f => f)) (fun f => f), h2.cell (G9.cell v0 (fun f => f)) (fun f => f), h2.cell (G9.cell v1 (fun f => f)) (fun f => f), h2.cell (cell_at E9) (fun f => f), h2.cell (cell_at E9) (fun f => f)⟩
         have A : ∀ w2, Fr no W9 w2 → Calls Tryz.prog 148 #[.pointer (some ⟨f, 0, none⟩), .agg #[.int .i64 y.k, .string y.c], .agg #[.int .i64 t.k, .string t.c]] w2 fun e w3 => e = .returned (.bool (fitT y t)) ∧ Fr no w2 w3 := fun w2 h2 => ffits_any w2 f q (h2.cell (G9.cell (fw.cell HK.out.2.2.2.2.2 (fun f => f)) (fun f => f)) (fun f => f)) y t hft
         have HX : Hid (fitT (x.st.getD (lf + k) top) (r.tk.getD k top) = fitT y t) := by show _ = _; rw [hgt, hgy]
         have HALL : Hid _ := hall
         have HFR : Hid (Fr no W wr ∧ Fr no wr W9) := ⟨fr, G9⟩
         clear hall fr G9 E9 hgt hgy ht hy v0 v1 fw hft hlf
         cases hfit : fitT y t with
         | false =>
          simp only [hfit] at A
          go_wp2_with fail
          go_region_held3 (fun w2 => Fr no W9 w2 ∧ w2.cell? ⟨w.heap.size + 1, 2, none⟩ = some (.slice (some ⟨sb, soff, none⟩) sp sc) ∧ w2.cell? ⟨sb, soff + (lf + k) * 2, none⟩ = some (.int .i64 y.k) ∧ w2.cell? ⟨sb, soff + (lf + k) * 2 + 1, none⟩ = some (.string y.c) ∧ w2.cell? ⟨wr.heap.size, 0, none⟩ = some (.int .i64 t.k) ∧ w2.cell? ⟨wr.heap.size, 1, none⟩ = some (.string t.c)) (first | exact KS _ (Fr.refl no _).drew | exact KS _ f3') (first | (go_at_call 148; refine (A _ (Fr.refl no _).drew).mono ?_; rintro e w3 ⟨rfl, f3⟩; have f3' := (Fr.refl no W9).drew.new f3 (fun _ _ f => f)))
          have HE' : Hid (runErr r ins x = 80) := by
           show _ = _
           rw [HE.out, if_neg]
           intro hA
           have this : fitT (x.st.getD (lf + k) top) (r.tk.getD k top) = true := List.all_eq_true.1 hA k (List.mem_range.2 hlt2)
           rw [HX.out, hfit] at this
           exact absurd this (by simp)
          clear A
          go_wp2_with fail
          go_ret
          rw [HE'.out]
          exact ⟨rfl, HW.out.1.new ((HFR.out.1.new HFR.out.2 (fun _ _ f => f)).new f3' (fun _ _ f => f)) (fun _ _ f => f)⟩
         | true =>
          simp only [hfit] at A
          go_wp2_with fail
          go_region_held3 (fun w2 => Fr no W9 w2 ∧ w2.cell? ⟨w.heap.size + 1, 2, none⟩ = some (.slice (some ⟨sb, soff, none⟩) sp sc) ∧ w2.cell? ⟨sb, soff + (lf + k) * 2, none⟩ = some (.int .i64 y.k) ∧ w2.cell? ⟨sb, soff + (lf + k) * 2 + 1, none⟩ = some (.string y.c) ∧ w2.cell? ⟨wr.heap.size, 0, none⟩ = some (.int .i64 t.k) ∧ w2.cell? ⟨wr.heap.size, 1, none⟩ = some (.string t.c)) (first | exact KS _ (Fr.refl no _).drew | exact KS _ f3') (first | (go_at_call 148; refine (A _ (Fr.refl no _).drew).mono ?_; rintro e w3 ⟨rfl, f3⟩; have f3' := (Fr.refl no W9).drew.new f3 (fun _ _ f => f)))
          have HA' : Hid (∀ j, j < k + 1 → fitT (x.st.getD (lf + j) top) (r.tk.getD j top) = true) := fun j hj => by
           by_cases e : j = k
           · subst e
             rw [HX.out, hfit]
           · exact HALL.out j (by omega)
          clear A
          go_wp2_with fail
          go_roundw
          case rel => exact ⟨k + 1, by go_num, by omega, (HFR.out.1.new HFR.out.2 (fun _ _ f => f)).new f3' (fun _ _ f => f), HA'.out⟩
          case measure => simp [intOf]; omega
       · have hkm' : k = m := by omega
         have hki : ¬ (k : Int) < (m : Int) := by omega
         have HE' : Hid (runErr r ins x = readE ins.1 ins.2 x.lo) := by
          show _ = _
          rw [HE.out, if_pos]
          rw [List.all_eq_true]
          intro j hj
          exact hall j (by rw [hkm']; exact List.mem_range.1 hj)
         have fw := HW.out.1.new fr (fun _ _ f => f)
         have KS : ∀ w2, Fr no wr w2 → Fr no wr w2 ∧ w2.cell? ⟨f, 7, none⟩ = some (.slice (some ⟨cb, co, none⟩) n cc) ∧ w2.cell? ⟨cb, co + i * 2, none⟩ = some (.int .i64 ins.1) ∧ w2.cell? ⟨cb, co + i * 2 + 1, none⟩ = some (.int .i64 ins.2) ∧ w2.cell? ⟨w.heap.size + 1, 1, none⟩ = some (.slice la lp lc) := fun w2 h2 =>
          ⟨h2, h2.cell (fw.cell HK.out.2.2.2.2.1 (fun f => f)) (fun f => f), h2.cell (fw.cell HK.out.2.2.2.1.1 (fun f => f)) (fun f => f), h2.cell (fw.cell HK.out.2.2.2.1.2 (fun f => f)) (fun f => f), h2.cell (fr.cell (cell_at HW.out.2.2) (fun f => f)) (fun f => f)⟩
         have A : ∀ w2, Fr no wr w2 → Calls Tryz.prog 149 #[.pointer (some ⟨f, 0, none⟩), .agg #[.int .i64 ins.1, .int .i64 ins.2], .slice la lp lc] w2 fun e w3 => e = .returned (.int .i64 (readE ins.1 ins.2 x.lo)) ∧ Fr no w2 w3 := fun w2 h2 => mayRead_any w2 f ins.1 ins.2 _ x.lo (HK.out.2.1.kept (fw.new h2 (fun _ _ f => f))) q ((fw.new h2 (fun _ _ f => f)).cell HK.out.2.2.2.2.2 (fun f => f)) (HFO.out.keep (fw.new h2 (fun _ _ f => f))) HH38.out (by rw [hlo]; exact HH4.out)
         have HFR : Hid _ := fw
         clear hall fr fw
         go_wp2_with fail
         go_region_held3 (fun w2 => Fr no wr w2 ∧ w2.cell? ⟨f, 7, none⟩ = some (.slice (some ⟨cb, co, none⟩) n cc) ∧ w2.cell? ⟨cb, co + i * 2, none⟩ = some (.int .i64 ins.1) ∧ w2.cell? ⟨cb, co + i * 2 + 1, none⟩ = some (.int .i64 ins.2) ∧ w2.cell? ⟨w.heap.size + 1, 1, none⟩ = some (.slice la lp lc)) (first | exact KS _ (Fr.refl no _).drew | exact KS _ f3') (first | (go_at_call 149; refine (A _ (Fr.refl no _).drew).mono ?_; rintro e w3 ⟨rfl, f3⟩; have f3' := (Fr.refl no wr).drew.new f3 (fun _ _ f => f)))
         go_wp2_with fail
         go_ret
         rw [HE'.out]
         exact ⟨rfl, HFR.out.new f3' (fun _ _ f => f)⟩
 · clear a10' a11' d0' d1' d2' d3' g0' g1' g2' a10'' a11'' d0'' d1'' d2'' d3'' g0'' g1'' g2''
   have FW : Fr no w ((w.alloc (.cells #[.bool true, .slice la x.lo.length lc, .slice sa x.st.length sc, .slice ka kn kc] 67)).alloc (.cells #[.bool r.nv, .slice ta r.tk.length tc, .slice pa pn pc] 195)).drew := (((Fr.refl no w).alloc _ _).alloc _ _).drew
   have EB : ((w.alloc (.cells #[.bool true, .slice la x.lo.length lc, .slice sa x.st.length sc, .slice ka kn kc] 67)).alloc (.cells #[.bool r.nv, .slice ta r.tk.length tc, .slice pa pn pc] 195)).drew.heap[w.heap.size + 1]? = some (.cells #[.bool r.nv, .slice ta r.tk.length tc, .slice pa pn pc] 195 (0, 0)) := by have := heap_alloc_new (w.alloc (.cells #[.bool true, .slice la x.lo.length lc, .slice sa x.st.length sc, .slice ka kn kc] 67)) (.cells #[.bool r.nv, .slice ta r.tk.length tc, .slice pa pn pc] 195); rw [size_alloc] at this; exact this
   have ES : ((w.alloc (.cells #[.bool true, .slice la x.lo.length lc, .slice sa x.st.length sc, .slice ka kn kc] 67)).alloc (.cells #[.bool r.nv, .slice ta r.tk.length tc, .slice pa pn pc] 195)).drew.heap[w.heap.size]? = some (.cells #[.bool true, .slice la x.lo.length lc, .slice sa x.st.length sc, .slice ka kn kc] 67 (0, 0)) := ((Fr.refl no (w.alloc (.cells #[.bool true, .slice la x.lo.length lc, .slice sa x.st.length sc, .slice ka kn kc] 67))).alloc _ _).drew.heap (heap_alloc_new w _) (fun f => f)
   generalize ((w.alloc (.cells #[.bool true, .slice la x.lo.length lc, .slice sa x.st.length sc, .slice ka kn kc] 67)).alloc (.cells #[.bool r.nv, .slice ta r.tk.length tc, .slice pa pn pc] 195)).drew = W at *
   have b0 := cell_at (o := 0) EB
   have b1 := cell_at (o := 1) EB
   have e1 := cell_at (o := 1) ES
   have e2 := cell_at (o := 2) ES
   simp only [List.getElem?_toArray, List.getElem?_cons_zero, List.getElem?_cons_succ] at b0 b1 e1 e2
   have HW : Hid (Fr no w W ∧ W.heap[w.heap.size + 1]? = some (.cells #[.bool r.nv, .slice ta r.tk.length tc, .slice pa pn pc] 195 (0, 0)) ∧ W.heap[w.heap.size]? = some (.cells #[.bool true, .slice la x.lo.length lc, .slice sa x.st.length sc, .slice ka kn kc] 67 (0, 0))) := ⟨FW, EB, ES⟩
   clear FW EB ES
   cases hnv : r.nv with
   | true =>
    have HE : Hid (runErr r ins x = 80) := by show _ = _; unfold runErr; rw [if_pos hnv]
    rw [hnv] at b0
    clear hnv
    go_wp2_with fail
    go_ret
    rw [HE.out]
    exact ⟨rfl, HW.out.1⟩
   | false =>
    rw [hnv] at b0
    have HNV : Hid _ := hnv
    clear hnv
    by_cases hlen : x.st.length < r.tk.length
    · have HE : Hid (runErr r ins x = 81) := by show _ = _; unfold runErr; rw [if_neg (by rw [HNV.out]; simp), if_pos hlen]
      have hlt : (x.st.length : Int) - (r.tk.length : Int) < 0 := by omega
      go_wp2_with fail
      go_ret
      rw [HE.out]
      exact ⟨rfl, HW.out.1⟩
    · have hlt : ¬ (x.st.length : Int) - (r.tk.length : Int) < 0 := by omega
      have HE : Hid (runErr r ins x = if (List.range r.tk.length).all (fun j => fitT (x.st.getD (x.st.length - r.tk.length + j) top) (r.tk.getD j top)) = true then readE ins.1 ins.2 x.lo else 80) := by show _ = _; unfold runErr; rw [if_neg (by rw [HNV.out]; simp), if_neg hlen]
      generalize htk : r.tk.length = m at *
      generalize hst : x.st.length = sp at *
      generalize hlo : x.lo.length = lp at *
      obtain ⟨lf, hlf⟩ : ∃ lf : Nat, sp = lf + m := ⟨sp - m, by omega⟩
      have hsub : (sp : Int) - (m : Int) = (lf : Int) := by omega
      have hsm : m ≤ 1000 ∧ sp ≤ 1000 := by omega
      rw [show sp - m = lf by omega] at HE
      have HLF : Hid (sp = lf + m) := hlf
      clear hlf
      go_wp2_with fail
      go_loopw [38] (fun i wr => ∃ k : Nat, i = .int .i64 (k : Int) ∧ k ≤ m ∧ Fr no W wr ∧ ∀ j, j < k → fitT (x.st.getD (lf + j) top) (r.tk.getD j top) = true) (fun i _ => m - (intOf i).toNat)
      case atStart => exact ⟨0, rfl, Nat.zero_le _, Fr.refl _ _, fun j hj => by omega⟩
      case round =>
       obtain ⟨k, rfl, hkm, fr, hall⟩ := hrel
       by_cases hlt2 : k < m
       · have hki : (k : Int) < (m : Int) := by omega
         have fw := HW.out.1.new fr (fun _ _ f => f)
         obtain ⟨t, ht⟩ : ∃ t, r.tk[k]? = some t := ⟨_, List.getElem?_eq_getElem (by omega)⟩
         obtain ⟨y, hy⟩ : ∃ y, x.st[lf + k]? = some y := ⟨_, List.getElem?_eq_getElem (by have := HLF.out; omega)⟩
         obtain ⟨tb, toff, tcap, e, u0, u1⟩ := ty_at (HK.out.1.kept fw) ht
         simp only [Value.slice.injEq] at e
         obtain ⟨rfl, -, rfl⟩ := e
         obtain ⟨sb, soff, scap, e, v0, v1⟩ := ty_at (HK.out.2.2.1.kept fw) hy
         simp only [Value.slice.injEq] at e
         obtain ⟨rfl, -, rfl⟩ := e
         have hft := HFIT.out t (List.mem_of_getElem? ht)
         have hgt : r.tk.getD k top = t := by rw [List.getD_eq_getElem?_getD, ht]; rfl
         have hgy : x.st.getD (lf + k) top = y := by rw [List.getD_eq_getElem?_getD, hy]; rfl
         have hlf := HLF.out
         have hidx0 : (0 : Int) ≤ (lf : Int) + (k : Int) := by omega
         have hidx : (lf : Int) + (k : Int) < (sp : Int) := by omega
         have htn : ((lf : Int) + (k : Int)).toNat = lf + k := by omega
         have hwrap : IntKind.i64.wrap ((lf : Int) + (k : Int)) = (lf : Int) + (k : Int) := IntWalk.i64_in _ (by omega)
         generalize hW9 : wr.alloc (.cells #[.int .i64 t.k, .string t.c] 44) = W9
         have G9 : Fr no wr W9 := by rw [← hW9]; exact (Fr.refl no wr).alloc _ _
         have E9 : W9.heap[wr.heap.size]? = some (.cells #[.int .i64 t.k, .string t.c] 44 (0, 0)) := by rw [← hW9]; exact heap_alloc_new wr _
         have KS : ∀ w2, Fr no W9 w2 → Fr no W9 w2 ∧ w2.cell? ⟨w.heap.size, 2, none⟩ = some (.slice (some ⟨sb, soff, none⟩) sp sc) ∧ w2.cell? ⟨sb, soff + (lf + k) * 2, none⟩ = some (.int .i64 y.k) ∧ w2.cell? ⟨sb, soff + (lf + k) * 2 + 1, none⟩ = some (.string y.c) ∧ w2.cell? ⟨wr.heap.size, 0, none⟩ = some (.int .i64 t.k) ∧ w2.cell? ⟨wr.heap.size, 1, none⟩ = some (.string t.c) := fun w2 h2 =>
          ⟨h2, h2.cell (G9.cell (fr.cell (cell_at HW.out.2.2) (fun f => f)) (fun f => f)) (fun f => f), h2.cell (G9.cell v0 (fun f => f)) (fun f => f), h2.cell (G9.cell v1 (fun f => f)) (fun f => f), h2.cell (cell_at E9) (fun f => f), h2.cell (cell_at E9) (fun f => f)⟩
         have A : ∀ w2, Fr no W9 w2 → Calls Tryz.prog 148 #[.pointer (some ⟨f, 0, none⟩), .agg #[.int .i64 y.k, .string y.c], .agg #[.int .i64 t.k, .string t.c]] w2 fun e w3 => e = .returned (.bool (fitT y t)) ∧ Fr no w2 w3 := fun w2 h2 => ffits_any w2 f q (h2.cell (G9.cell (fw.cell HK.out.2.2.2.2.2 (fun f => f)) (fun f => f)) (fun f => f)) y t hft
         have HX : Hid (fitT (x.st.getD (lf + k) top) (r.tk.getD k top) = fitT y t) := by show _ = _; rw [hgt, hgy]
         have HALL : Hid _ := hall
         have HFR : Hid (Fr no W wr ∧ Fr no wr W9) := ⟨fr, G9⟩
         clear hall fr G9 E9 hgt hgy ht hy v0 v1 fw hft hlf
         cases hfit : fitT y t with
         | false =>
          simp only [hfit] at A
          go_wp2_with fail
          go_region_held3 (fun w2 => Fr no W9 w2 ∧ w2.cell? ⟨w.heap.size, 2, none⟩ = some (.slice (some ⟨sb, soff, none⟩) sp sc) ∧ w2.cell? ⟨sb, soff + (lf + k) * 2, none⟩ = some (.int .i64 y.k) ∧ w2.cell? ⟨sb, soff + (lf + k) * 2 + 1, none⟩ = some (.string y.c) ∧ w2.cell? ⟨wr.heap.size, 0, none⟩ = some (.int .i64 t.k) ∧ w2.cell? ⟨wr.heap.size, 1, none⟩ = some (.string t.c)) (first | exact KS _ (Fr.refl no _).drew | exact KS _ f3') (first | (go_at_call 148; refine (A _ (Fr.refl no _).drew).mono ?_; rintro e w3 ⟨rfl, f3⟩; have f3' := (Fr.refl no W9).drew.new f3 (fun _ _ f => f)))
          have HE' : Hid (runErr r ins x = 80) := by
           show _ = _
           rw [HE.out, if_neg]
           intro hA
           have this : fitT (x.st.getD (lf + k) top) (r.tk.getD k top) = true := List.all_eq_true.1 hA k (List.mem_range.2 hlt2)
           rw [HX.out, hfit] at this
           exact absurd this (by simp)
          clear A
          go_wp2_with fail
          go_ret
          rw [HE'.out]
          exact ⟨rfl, HW.out.1.new ((HFR.out.1.new HFR.out.2 (fun _ _ f => f)).new f3' (fun _ _ f => f)) (fun _ _ f => f)⟩
         | true =>
          simp only [hfit] at A
          go_wp2_with fail
          go_region_held3 (fun w2 => Fr no W9 w2 ∧ w2.cell? ⟨w.heap.size, 2, none⟩ = some (.slice (some ⟨sb, soff, none⟩) sp sc) ∧ w2.cell? ⟨sb, soff + (lf + k) * 2, none⟩ = some (.int .i64 y.k) ∧ w2.cell? ⟨sb, soff + (lf + k) * 2 + 1, none⟩ = some (.string y.c) ∧ w2.cell? ⟨wr.heap.size, 0, none⟩ = some (.int .i64 t.k) ∧ w2.cell? ⟨wr.heap.size, 1, none⟩ = some (.string t.c)) (first | exact KS _ (Fr.refl no _).drew | exact KS _ f3') (first | (go_at_call 148; refine (A _ (Fr.refl no _).drew).mono ?_; rintro e w3 ⟨rfl, f3⟩; have f3' := (Fr.refl no W9).drew.new f3 (fun _ _ f => f)))
          have HA' : Hid (∀ j, j < k + 1 → fitT (x.st.getD (lf + j) top) (r.tk.getD j top) = true) := fun j hj => by
           by_cases e : j = k
           · subst e
             rw [HX.out, hfit]
           · exact HALL.out j (by omega)
          clear A
          go_wp2_with fail
          go_roundw
          case rel => exact ⟨k + 1, by go_num, by omega, (HFR.out.1.new HFR.out.2 (fun _ _ f => f)).new f3' (fun _ _ f => f), HA'.out⟩
          case measure => simp [intOf]; omega
       · have hkm' : k = m := by omega
         have hki : ¬ (k : Int) < (m : Int) := by omega
         have HE' : Hid (runErr r ins x = readE ins.1 ins.2 x.lo) := by
          show _ = _
          rw [HE.out, if_pos]
          rw [List.all_eq_true]
          intro j hj
          exact hall j (by rw [hkm']; exact List.mem_range.1 hj)
         have fw := HW.out.1.new fr (fun _ _ f => f)
         have KS : ∀ w2, Fr no wr w2 → Fr no wr w2 ∧ w2.cell? ⟨f, 7, none⟩ = some (.slice (some ⟨cb, co, none⟩) n cc) ∧ w2.cell? ⟨cb, co + i * 2, none⟩ = some (.int .i64 ins.1) ∧ w2.cell? ⟨cb, co + i * 2 + 1, none⟩ = some (.int .i64 ins.2) ∧ w2.cell? ⟨w.heap.size, 1, none⟩ = some (.slice la lp lc) := fun w2 h2 =>
          ⟨h2, h2.cell (fw.cell HK.out.2.2.2.2.1 (fun f => f)) (fun f => f), h2.cell (fw.cell HK.out.2.2.2.1.1 (fun f => f)) (fun f => f), h2.cell (fw.cell HK.out.2.2.2.1.2 (fun f => f)) (fun f => f), h2.cell (fr.cell (cell_at HW.out.2.2) (fun f => f)) (fun f => f)⟩
         have A : ∀ w2, Fr no wr w2 → Calls Tryz.prog 149 #[.pointer (some ⟨f, 0, none⟩), .agg #[.int .i64 ins.1, .int .i64 ins.2], .slice la lp lc] w2 fun e w3 => e = .returned (.int .i64 (readE ins.1 ins.2 x.lo)) ∧ Fr no w2 w3 := fun w2 h2 => mayRead_any w2 f ins.1 ins.2 _ x.lo (HK.out.2.1.kept (fw.new h2 (fun _ _ f => f))) q ((fw.new h2 (fun _ _ f => f)).cell HK.out.2.2.2.2.2 (fun f => f)) (HFO.out.keep (fw.new h2 (fun _ _ f => f))) HH38.out (by rw [hlo]; exact HH4.out)
         have HFR : Hid _ := fw
         clear hall fr fw
         go_wp2_with fail
         go_region_held3 (fun w2 => Fr no wr w2 ∧ w2.cell? ⟨f, 7, none⟩ = some (.slice (some ⟨cb, co, none⟩) n cc) ∧ w2.cell? ⟨cb, co + i * 2, none⟩ = some (.int .i64 ins.1) ∧ w2.cell? ⟨cb, co + i * 2 + 1, none⟩ = some (.int .i64 ins.2) ∧ w2.cell? ⟨w.heap.size, 1, none⟩ = some (.slice la lp lc)) (first | exact KS _ (Fr.refl no _).drew | exact KS _ f3') (first | (go_at_call 149; refine (A _ (Fr.refl no _).drew).mono ?_; rintro e w3 ⟨rfl, f3⟩; have f3' := (Fr.refl no wr).drew.new f3 (fun _ _ f => f)))
         go_wp2_with fail
         go_ret
         rw [HE'.out]
         exact ⟨rfl, HFR.out.new f3' (fun _ _ f => f)⟩
end Go.Proofs.YtalgjpmaafooeaaGreatDoor
