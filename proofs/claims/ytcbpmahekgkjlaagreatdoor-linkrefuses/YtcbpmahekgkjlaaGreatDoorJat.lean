/- Classes each below the one ahead of it, in memory. -/
import Derived.Test.YtcbpmahekgkjlaaGreatDoorJas
import Derived.Test.YtcbpmahekgkjlaaGreatDoorRows
import Derived.ProofKit
import Derived.LaidMore
import Derived.OpenShut
import Derived.Stop.Joined
import Derived.Stop.LaidErr
import Derived.Lib.LaidTab
import Derived.Deep.Slices
import Derived.Deep.Grids
import Derived.Carry
namespace Go.Proofs.YtcbpmahekgkjlaaGreatDoor
open Go.ChangeShapes Go.WideShapes Go.ChangeAt Go.RowKit
open H (ix NewV)

def elU : H.El Nat := ⟨22, 5, .int .u8 0, 1, fun n => .int .u8 (n : Int)⟩
def elB : H.El Bool := ⟨46, 4, .bool false, 1, .bool⟩
theorem elU_ok : elU.Ok := ⟨Tryz.underlying22, by kernel_rfl, fun _ => rfl, rfl, by decide⟩
theorem elB_ok : elB.Ok := ⟨Tryz.underlying46, by kernel_rfl, fun _ => rfl, rfl, by decide⟩

set_option maxRecDepth 100000 in
set_option maxHeartbeats 2000000 in
theorem ret_at' (w : World) (n : ByteArray) :
    Calls Tryz.prog 21 #[.string n] w fun e w' => ∃ c, e = .returned (msV (retS n c)) ∧ w.heap.size ≤ c ∧ w'.heap[c]? = some (.cells #[.int .i64 33, .int .i64 0] 94 (0, 0)) ∧ Fr no w w' := by
  go_enter Tryz.func21, Tryz.ntmps21
  go_wp2_with fail
  generalize hA0 : w.alloc (.cells #[.string n, .slice none 0 0, .int .i64 0, .string ⟨#[]⟩, .int .i64 1, .int .i64 0, .slice (some ⟨w.heap.size + 1, 0, none⟩) 1 1, .slice none 0 0] 51) = A0
  have e0 : A0.heap.size = w.heap.size + 1 := by rw [← hA0]; simp
  have b0 : A0.heap[w.heap.size]? = some (.cells #[.string n, .slice none 0 0, .int .i64 0, .string ⟨#[]⟩, .int .i64 1, .int .i64 0, .slice (some ⟨w.heap.size + 1, 0, none⟩) 1 1, .slice none 0 0] 51 (0, 0)) := by rw [← hA0]; exact heap_alloc_new w _
  have f0 : Fr no w A0 := by rw [← hA0]; exact (Fr.refl no w).alloc _ _
  have f1 : Fr no A0 (A0.alloc (.cells #[.int .i64 33, .int .i64 0] 94)) := (Fr.refl no A0).alloc _ _
  have h1 : (A0.alloc (.cells #[.int .i64 33, .int .i64 0] 94)).heap[A0.heap.size]? = some (.cells #[.int .i64 33, .int .i64 0] 94 (0, 0)) := heap_alloc_new A0 _
  rw [e0] at h1
  refine bodyPost_ret (results_21 _ w.heap.size _ _ _ _ _ _ _ _ (f1.heap b0 (fun f => f)) _ rfl) rfl ?_
  exact ⟨w.heap.size + 1, rfl, by omega, h1, f0.new f1 (fun _ _ f => f)⟩

theorem own_heap {α : Type} {K : El α} (hK : K.Ok) {w : World} {g : Nat} (l : List α) {cs : Array Value} (hg : w.heap[g]? = some (.cells cs K.e (0, 0))) (hc : cs = (cg K l).toArray) (h : l.length ≤ maxLen) : OwnG K w (.slice (some ⟨g, 0, none⟩) l.length l.length) l := by
  subst hc
  refine ⟨⟨cg_length hK l, .inr ⟨g, l.length, (cg K l).toArray, rfl, Nat.zero_le _, hg, Nat.le_refl _, h, by simp [cg_length hK], ?_⟩⟩, fun k cur t fz hk hc => ?_⟩
  · rw [← cg_length hK]
    exact List.take_of_length_le (by simp)
  · simp only [Value.ownBlock, Option.some.injEq] at hk
    subst hk
    rw [hg] at hc
    simp only [Option.some.injEq, Obj.cells.injEq] at hc
    obtain ⟨rfl, _, _⟩ := hc
    intro u hu
    exact cg_nob hK l u (by simpa using hu)

/-- One of the chain's classes: its rows lie in blocks of their own. -/
structure ChAt (w : World) (lo hi : Nat) (s : Ks) (k : Nat) (h : Bool) (j : Nat) : Prop where
  name : s.name = lt j
  super : s.super = supL j
  p : s.p = ⟨none, 0, 0⟩
  f : ∃ g, lo ≤ g ∧ g < hi ∧ s.f = ⟨some ⟨g, 0, none⟩, 1, 1⟩ ∧ w.heap[g]? = some (.cells #[.string (fnm j), .int .i64 (k : Int), .string e0, .bool false] 33 (0, 0))
  m1 : h = true → ∃ g c, (lo ≤ g ∧ g < hi) ∧ (lo ≤ c ∧ c < hi) ∧ s.m = ⟨some ⟨g, 0, none⟩, 1, 1⟩ ∧ w.heap[g]? = some (.cells (msC (retS sm c)).toArray 51 (0, 0)) ∧ w.heap[c]? = some (.cells #[.int .i64 33, .int .i64 0] 94 (0, 0))
  m0 : h = false → s.m = ⟨none, 0, 0⟩

theorem ChAt.kept {S : Nat → Prop} {w w' : World} {lo hi k j : Nat} {s : Ks} {h : Bool} (c : ChAt w lo hi s k h j) (hf : Fr S w w') (hS : ∀ g cur t, w.heap[g]? = some (.cells cur t (0, 0)) → t = 33 ∨ t = 51 ∨ t = 94 → ¬ S g) : ChAt w' lo hi s k h j := by
  refine ⟨c.name, c.super, c.p, ?_, fun hh => ?_, c.m0⟩
  · obtain ⟨g, h1, h2, h3, h4⟩ := c.f
    exact ⟨g, h1, h2, h3, hf.heap h4 (hS _ _ _ h4 (.inl rfl))⟩
  · obtain ⟨g, q, h1, h2, h3, h4, h5⟩ := c.m1 hh
    exact ⟨g, q, h1, h2, h3, hf.heap h4 (hS _ _ _ h4 (.inr (.inl rfl))), hf.heap h5 (hS _ _ _ h5 (.inr (.inr rfl)))⟩

theorem ret_mt {w : World} {c : Nat} (n : ByteArray) (h : w.heap[c]? = some (.cells #[.int .i64 33, .int .i64 0] 94 (0, 0))) : MtAt w (retS n c) (retM n) :=
  ⟨rfl, rfl, rfl, rfl, SlG.nil elTy w, ((own_heap okIn [(33, 0)] h rfl (by decide)).sl okIn).i, SlG.nil elHd w⟩

theorem ChAt.cl {w : World} {lo hi k j : Nat} {s : Ks} {h : Bool} (c : ChAt w lo hi s k h j) : ClAt w s (chC k h j) := by
  obtain ⟨n0, s0, sp, sf, smm⟩ := s
  obtain ⟨rfl, rfl, rfl, ⟨g, -, -, e1, h4⟩, m1, m0⟩ := c
  simp only at e1
  subst e1
  have of := own_heap okFd [fdOf k j] h4 rfl (show 1 ≤ maxLen by decide)
  cases h
  · have := m0 rfl
    simp only at this
    subst this
    exact ⟨rfl, rfl, SlG.nil elCs w, of.sl okFd, [], SlG.nil elMs w, rfl, fun i s m hs => by simp at hs⟩
  · obtain ⟨gm, q, -, -, e2, h5, h6⟩ := m1 rfl
    simp only at e2
    subst e2
    refine ⟨rfl, rfl, SlG.nil elCs w, of.sl okFd, [retS sm q], (own_heap okMs [retS sm q] h5 (by simp [cg, elMs]) (show 1 ≤ maxLen by decide)).sl okMs, rfl, ?_⟩
    intro i s m hs hm
    match i, hs, hm with
    | 0, hs, hm =>
      have hm' : some (retM sm) = some m := hm
      simp only [List.getElem?_cons_zero, Option.some.injEq] at hs hm'
      subst hs hm'
      exact ret_mt sm h6
    | i + 1, hs, hm => simp at hs

/-- Main, and so many of the chain's classes. -/
structure ChRow (w1 w : World) (v : Value) (kd : Nat → Nat) (hs : Nat → Bool) (n : Nat) (ks : List Ks) (bs : Nat → Nat) : Prop where
  own : OwnG elKs w v ks
  len : ks.length = n + 1
  main : ∃ s, ks[0]? = some s ∧ ClAt w1 s mainC
  cls : ∀ j, j < n → ∃ s, ks[j + 1]? = some s ∧ ChAt w (bs j) (bs (j + 1)) s (kd j) (hs j) j
  mono : ∀ j, j < n → bs j ≤ bs (j + 1)
  top : bs n ≤ w.heap.size
  bot : w1.heap.size ≤ bs 0
  new : NewV w1 v
  fr : Fr no w1 w

theorem ChAt.wide {w : World} {lo hi lo' hi' k j : Nat} {s : Ks} {h : Bool} (c : ChAt w lo hi s k h j) (h1 : lo' ≤ lo) (h2 : hi ≤ hi') : ChAt w lo' hi' s k h j := by
  refine ⟨c.name, c.super, c.p, ?_, fun hh => ?_, c.m0⟩
  · obtain ⟨g, a1, a2, h3, h4⟩ := c.f
    exact ⟨g, by omega, by omega, h3, h4⟩
  · obtain ⟨g, q, a1, a2, h3⟩ := c.m1 hh
    exact ⟨g, q, by omega, by omega, h3⟩

theorem ch_step {w1 wr We w3 : World} {l v' : Value} {kd : Nat → Nat} {hs : Nat → Bool} {k : Nat} {ks : List Ks} {bs : Nat → Nat} {sx : Ks} (R : ChRow w1 wr l kd hs k ks bs) (G : Fr no wr We)
    (C : ChAt We wr.heap.size We.heap.size sx (kd k) (hs k) k) (o3 : OwnG elKs w3 v' (ks ++ [sx])) (s3 : Sp no l We v' w3) : ChRow w1 w3 v' kd hs (k + 1) (ks ++ [sx]) (fun j => if j ≤ k then bs j else We.heap.size) := by
  have ol : OwnG elKs We l ks := R.own.keep G
  have ht : ∀ g cur t, We.heap[g]? = some (.cells cur t (0, 0)) → t = 33 ∨ t = 51 ∨ t = 94 → ¬ (no g ∨ l.ownBlock = some g) := fun g cur t hg ht e => by
    rcases e with e | e
    · exact e
    · obtain ⟨cu, hcu⟩ := ol.tag e
      rw [hg] at hcu
      simp only [Option.some.injEq, Obj.cells.injEq] at hcu
      have e59 : t = 59 := hcu.2.1
      rcases ht with h | h | h <;> (rw [h] at e59; exact absurd e59 (by decide))
  have hf : Fr no w1 w3 := (R.fr.new G (fun _ _ f => f)).new s3.1 (fun i hi e => e.elim (fun f => f) (fun e => by have := R.new i e; omega))
  have htop := R.top
  have hGs := G.size
  have h3s := s3.1.size
  refine ⟨o3, by rw [List.length_append, R.len]; rfl, ?_, fun j hj => ?_, fun j hj => ?_, ?_, ?_, fun g hg => ?_, hf⟩
  · obtain ⟨s, h1, h2⟩ := R.main
    exact ⟨s, by rw [List.getElem?_append_left (by rw [R.len]; omega)]; exact h1, h2⟩
  · by_cases hjk : j < k
    · obtain ⟨s, h1, h2⟩ := R.cls j hjk
      refine ⟨s, by rw [List.getElem?_append_left (by rw [R.len]; omega)]; exact h1, ?_⟩
      simp only [if_pos (show j ≤ k by omega), if_pos (show j + 1 ≤ k by omega)]
      exact (h2.kept G (fun _ _ _ _ _ f => f)).kept s3.1 ht
    · obtain rfl : j = k := by omega
      refine ⟨sx, by rw [List.getElem?_append_right (by rw [R.len]; omega), R.len, Nat.sub_self]; rfl, ?_⟩
      simp only [if_pos (Nat.le_refl j), if_neg (show ¬ j + 1 ≤ j by omega)]
      exact (C.kept s3.1 ht).wide htop (Nat.le_refl _)
  · by_cases hjk : j < k
    · simp only [if_pos (show j ≤ k by omega), if_pos (show j + 1 ≤ k by omega)]
      exact R.mono j hjk
    · obtain rfl : j = k := by omega
      simp only [if_pos (Nat.le_refl j), if_neg (show ¬ j + 1 ≤ j by omega)]
      omega
  · simp only [if_neg (show ¬ k + 1 ≤ k by omega)]
    exact h3s
  · simp only [if_pos (Nat.zero_le k)]
    exact R.bot
  · by_cases hl : g < We.heap.size
    · exact R.new g (s3.2 g hl hg)
    · have := (R.fr.new G (fun _ _ f => f)).size
      omega

theorem one5 {w : World} {p : Nat} {t : TypeId} {c0 c1 c2 c3 c4 : Value} (h : w.heap[p]? = some (.cells #[c0, c1, c2, c3, c4] t (0, 0))) (x : Value) : (w.setCell ⟨p, 3, none⟩ x).heap[p]? = some (.cells #[c0, c1, c2, x, c4] t (0, 0)) := by
  simp [World.setCell, Array.getElem?_modify, h]
theorem one5' {w : World} {p : Nat} {t : TypeId} {c0 c1 c2 c3 c4 : Value} (h : w.heap[p]? = some (.cells #[c0, c1, c2, c3, c4] t (0, 0))) (x : Value) : (w.setCell ⟨p, 4, none⟩ x).heap[p]? = some (.cells #[c0, c1, c2, c3, x] t (0, 0)) := by
  simp [World.setCell, Array.getElem?_modify, h]

theorem lit_lt : ∀ k : Fin 14, (⟨#[65, 66, 67, 68, 69, 70, 71, 72, 73, 74, 75, 76, 77, 78]⟩ : ByteArray).extract k.val (k.val + 1) = lt k.val := by decide +kernel
theorem slice_lt (k : Nat) (h : k < 14) (w : World) : (Instr.slice 9 (.string ⟨#[65, 66, 67, 68, 69, 70, 71, 72, 73, 74, 75, 76, 77, 78]⟩) (some (.int .i64 (k : Int))) (some (.int .i64 ((k : Int) + 1))) none).run Tryz.prog w = .ok (.string (lt k)) w := by
  have hs : (⟨#[65, 66, 67, 68, 69, 70, 71, 72, 73, 74, 75, 76, 77, 78]⟩ : ByteArray).size = 14 := rfl
  rw [run_slice_string w 9 _ .i64 .i64 (k : Int) ((k : Int) + 1) Tryz.underlying9 (by omega) (by omega) (by rw [hs]; omega)]
  rw [show ((k : Int) + 1).toNat = k + 1 by omega, Int.toNat_natCast, lit_lt ⟨k, h⟩]
theorem fnm_eq (k : Nat) : (⟨#[102]⟩ : ByteArray) ++ lt k = fnm k := rfl

set_option maxRecDepth 100000 in
set_option maxHeartbeats 2000000 in
theorem chain_any (w : World) (kv hv : Value) (kinds : List Nat) (has : List Bool) (hk : H.SlG elU w kv kinds) (hh : H.SlG elB w hv has) (hb : kinds.length ≤ 12) (h256 : ∀ x ∈ kinds, x < 256) :
    Calls Tryz.prog 8 #[kv, hv] w fun e w' => ∃ v w1 ks bs, e = .returned v ∧ ChRow w1 w' v (fun i => kinds.getD i 0 % 3 + 1) (fun i => has.getD i false) kinds.length ks bs ∧ Fr no w w1 := by
  obtain ⟨ka, kc, rfl, hk1, hk2, -, hk3⟩ := hk
  obtain ⟨ha, hc, rfl, hh1, hh2, -, hh3⟩ := hh
  have HK : Hid (∀ (i : Nat) (x : Nat), kinds[i]? = some x → ∃ b off, ka = some ⟨b, off, none⟩ ∧ w.cell? ⟨b, off + i, none⟩ = some (elU.f x)) := hk3
  have HH : Hid (∀ (i : Nat) (x : Bool), has[i]? = some x → ∃ b off, ha = some ⟨b, off, none⟩ ∧ w.cell? ⟨b, off + i, none⟩ = some (elB.f x)) := hh3
  clear hk3 hh3
  have H256 : Hid (∀ x ∈ kinds, x < 256) := h256
  clear h256
  generalize hn : kinds.length = n at *
  generalize hm : has.length = m at *
  go_enter Tryz.func8, Tryz.ntmps8
  go_wp2_with fail
  refine (mainClass_any w).mono ?_
  rintro e w1 ⟨s, rfl, hcl, f1⟩
  unfold ksV
  have HM : Hid (ClAt w1 s mainC ∧ Fr no w w1) := ⟨hcl, f1⟩
  have o1 := own_lit okKs w1 [s] #[.string s.name, .string s.super, .slice s.p.a s.p.n s.p.c, .slice s.f.a s.f.n s.f.c, .slice s.m.a s.m.n s.m.c] rfl (show 1 ≤ maxLen by decide)
  have G1 : Fr no w1 (w1.alloc (.cells #[.string s.name, .string s.super, .slice s.p.a s.p.n s.p.c, .slice s.f.a s.f.n s.f.c, .slice s.m.a s.m.n s.m.c] 59)) := (Fr.refl no w1).alloc _ _
  have HR0 : Hid (ChRow w1 (w1.alloc (.cells #[.string s.name, .string s.super, .slice s.p.a s.p.n s.p.c, .slice s.f.a s.f.n s.f.c, .slice s.m.a s.m.n s.m.c] 59)) (.slice (some ⟨w1.heap.size, 0, none⟩) 1 1) (fun i => kinds.getD i 0 % 3 + 1) (fun i => has.getD i false) 0 [s] (fun _ => w1.heap.size)) :=
    ⟨o1, rfl, ⟨s, rfl, hcl⟩, fun j hj => by omega, fun j hj => by omega, G1.size, Nat.le_refl _, fun k hk => by simp only [Value.ownBlock, Option.some.injEq] at hk; omega, G1⟩
  clear hcl f1 o1 G1
  generalize hW1 : w1.alloc (.cells #[.string s.name, .string s.super, .slice s.p.a s.p.n s.p.c, .slice s.f.a s.f.n s.f.c, .slice s.m.a s.m.n s.m.c] 59) = W1 at *
  go_wp2_with fail
  go_loopw [7, 5, 6] (fun i l u wr => ∃ (k : Nat) (o : Option Addr) (c : Nat) (ks : List Ks) (bs : Nat → Nat), i = .int .i64 (k : Int) ∧ k ≤ n ∧ u = .string (supL k) ∧ l = .slice o (k + 1) c ∧ ChRow w1 wr l (fun i => kinds.getD i 0 % 3 + 1) (fun i => has.getD i false) k ks bs) (fun i _ _ _ => n - (intOf i).toNat)
  case atStart => exact ⟨0, _, _, [s], _, rfl, Nat.zero_le _, rfl, rfl, HR0.out⟩
  case round =>
    obtain ⟨k, o, c, ks, bs, rfl, hkn, rfl, rfl, R⟩ := hrel
    by_cases hlt : k < n
    · have hki : (k : Int) < (n : Int) := by omega
      obtain ⟨x, hx⟩ : ∃ x, kinds[k]? = some x := ⟨_, List.getElem?_eq_getElem (by omega)⟩
      obtain ⟨kb, koff, rfl, hkx⟩ := HK.out k x hx
      have hx6 := H256.out x (List.mem_of_getElem? hx)
      have g0 : Fr no w wr := HM.out.2.new R.fr (fun _ _ f => f)
      have z0 := g0.cell hkx (fun f => f)
      simp only [elU] at z0
      have Ea : (wr.alloc (.cells #[.string (lt k), .string (supL k), .slice none 0 0, .slice none 0 0, .slice none 0 0] 59)).heap[wr.heap.size]? = some (.cells #[.string (lt k), .string (supL k), .slice none 0 0, .slice none 0 0, .slice none 0 0] 59 (0, 0)) := heap_alloc_new wr _
      have Ga : Fr no wr (wr.alloc (.cells #[.string (lt k), .string (supL k), .slice none 0 0, .slice none 0 0, .slice none 0 0] 59)) := (Fr.refl no wr).alloc _ _
      have za := Ga.cell z0 (fun f => f)
      have sa : (wr.alloc (.cells #[.string (lt k), .string (supL k), .slice none 0 0, .slice none 0 0, .slice none 0 0] 59)).heap.size = wr.heap.size + 1 := size_alloc _ _
      have Eb : ((wr.alloc (.cells #[.string (lt k), .string (supL k), .slice none 0 0, .slice none 0 0, .slice none 0 0] 59)).alloc (.cells #[.int .i64 ((x : Int) % 3 + 1), .string ⟨#[]⟩] 31)).heap[wr.heap.size + 1]? = some (.cells #[.int .i64 ((x : Int) % 3 + 1), .string ⟨#[]⟩] 31 (0, 0)) := by rw [← sa]; exact heap_alloc_new _ _
      have Gb : Fr no (wr.alloc (.cells #[.string (lt k), .string (supL k), .slice none 0 0, .slice none 0 0, .slice none 0 0] 59)) ((wr.alloc (.cells #[.string (lt k), .string (supL k), .slice none 0 0, .slice none 0 0, .slice none 0 0] 59)).alloc (.cells #[.int .i64 ((x : Int) % 3 + 1), .string ⟨#[]⟩] 31)) := (Fr.refl no _).alloc _ _
      have sb : ((wr.alloc (.cells #[.string (lt k), .string (supL k), .slice none 0 0, .slice none 0 0, .slice none 0 0] 59)).alloc (.cells #[.int .i64 ((x : Int) % 3 + 1), .string ⟨#[]⟩] 31)).heap.size = wr.heap.size + 2 := by rw [size_alloc, sa]
      have yb0 := cell_at (o := 0) (Gb.heap Ea (fun f => f))
      have xb0 := cell_at (o := 0) Eb
      have xb1 := cell_at (o := 1) Eb
      generalize hWc : ((wr.alloc (.cells #[.string (lt k), .string (supL k), .slice none 0 0, .slice none 0 0, .slice none 0 0] 59)).alloc (.cells #[.int .i64 ((x : Int) % 3 + 1), .string ⟨#[]⟩] 31)).alloc (.cells #[.string (fnm k), .int .i64 ((x : Int) % 3 + 1), .string ⟨#[]⟩, .bool false] 33) = Wc
      have Ec : Wc.heap[wr.heap.size + 2]? = some (.cells #[.string (fnm k), .int .i64 ((x : Int) % 3 + 1), .string ⟨#[]⟩, .bool false] 33 (0, 0)) := by rw [← hWc, ← sb]; exact heap_alloc_new _ _
      have Gc : Fr no ((wr.alloc (.cells #[.string (lt k), .string (supL k), .slice none 0 0, .slice none 0 0, .slice none 0 0] 59)).alloc (.cells #[.int .i64 ((x : Int) % 3 + 1), .string ⟨#[]⟩] 31)) Wc := by rw [← hWc]; exact (Fr.refl no _).alloc _ _
      have Eac := Gc.heap (Gb.heap Ea (fun f => f)) (fun f => f)
      have yc3 := cell_at (o := 3) Eac
      have fc3 := frozen_at (o := 3) Eac
      simp only [List.getElem?_toArray, List.getElem?_cons_zero, List.getElem?_cons_succ] at yb0 xb0 xb1 yc3
      have hfn := fnm_eq k
      generalize hWd : Wc.setCell ⟨wr.heap.size, 3, none⟩ (.slice (some ⟨wr.heap.size + 2, 0, none⟩) 1 1) = Wd
      have Gd : Fr (fun k => k = wr.heap.size) Wc Wd := by rw [← hWd]; exact (Fr.refl (fun k => k = wr.heap.size) Wc).setCell (p := ⟨wr.heap.size, 3, none⟩) (fun _ => rfl) _
      have Ed : Wd.heap[wr.heap.size]? = some (.cells #[.string (lt k), .string (supL k), .slice none 0 0, .slice (some ⟨wr.heap.size + 2, 0, none⟩) 1 1, .slice none 0 0] 59 (0, 0)) := by rw [← hWd]; exact one5 Eac _
      have Edc := Gd.heap Ec (by omega)
      have Gw : Fr no wr Wd := ((Ga.new Gb (fun _ _ f => f)).new Gc (fun _ _ f => f)).new Gd (fun i hi e => by omega)
      obtain ⟨yd0, yd1, yd2, yd3, yd4⟩ := box5 Ed
      have fd4 := frozen_at (o := 4) Ed
      have hsl := fun w' => slice_lt k (by omega) w'
      have hkd : ((kinds.getD k 0 % 3 + 1 : Nat) : Int) = (x : Int) % 3 + 1 := by
        rw [List.getD_eq_getElem?_getD, hx, Option.getD_some]
        omega
      by_cases hmk : m ≤ k
      · have hmk' : ¬ ((k : Int) < (m : Int)) := by omega
        have hhf : has.getD k false = false := by rw [List.getD_eq_getElem?_getD, List.getElem?_eq_none (by omega)]; rfl
        have HR : Hid _ := R
        have HG : Hid (Fr no wr (Wd.alloc (.cells #[.string (lt k), .string (supL k), .slice none 0 0, .slice (some ⟨wr.heap.size + 2, 0, none⟩) 1 1, .slice none 0 0] 59))) := Gw.alloc _ _
        have HO : Hid (OwnG elKs (Wd.alloc (.cells #[.string (lt k), .string (supL k), .slice none 0 0, .slice (some ⟨wr.heap.size + 2, 0, none⟩) 1 1, .slice none 0 0] 59)) (.slice o (k + 1) c) ks ∧ ks.length = k + 1) := ⟨R.own.keep HG.out, R.len⟩
        have HC : Hid (ChAt (Wd.alloc (.cells #[.string (lt k), .string (supL k), .slice none 0 0, .slice (some ⟨wr.heap.size + 2, 0, none⟩) 1 1, .slice none 0 0] 59)) wr.heap.size (Wd.alloc (.cells #[.string (lt k), .string (supL k), .slice none 0 0, .slice (some ⟨wr.heap.size + 2, 0, none⟩) 1 1, .slice none 0 0] 59)).heap.size ⟨lt k, supL k, ⟨none, 0, 0⟩, ⟨some ⟨wr.heap.size + 2, 0, none⟩, 1, 1⟩, ⟨none, 0, 0⟩⟩ (kinds.getD k 0 % 3 + 1) (has.getD k false) k) := by
          have G1 : Fr no Wd (Wd.alloc (.cells #[.string (lt k), .string (supL k), .slice none 0 0, .slice (some ⟨wr.heap.size + 2, 0, none⟩) 1 1, .slice none 0 0] 59)) := (Fr.refl no Wd).alloc _ _
          refine ⟨rfl, rfl, rfl, ⟨wr.heap.size + 2, by omega, Nat.lt_of_lt_of_le (lt_of_heap Edc) G1.size, rfl, ?_⟩, fun e => ?_, fun _ => rfl⟩
          · have := G1.heap Edc (fun f => f)
            rw [this, hkd]
            rfl
          · rw [hhf] at e
            simp at e
        clear R Gw Edc
        go_wp2_with (first | (at_builtin; refine wpList_apdG okKs _ rfl rfl _ _ rfl (.slice o (k + 1) c) ks rfl HO.out.1 _ rfl [⟨lt k, supL k, ⟨none, 0, 0⟩, ⟨some ⟨wr.heap.size + 2, 0, none⟩, 1, 1⟩, ⟨none, 0, 0⟩⟩] (srcG_one okKs Wd _) (by simp) (by have := HO.out.2; simp only [List.length_singleton]; omega) ?_; intro v' w3 o3 s3; obtain ⟨oo3, cc3, rfl⟩ := o3.form; have HO3 : Hid (_ ∧ _) := ⟨o3, s3⟩; clear o3 s3) | go_in)
        go_roundw
        case rel =>
          obtain ⟨o3, s3⟩ := HO3.out
          have hl := HO.out.2
          have C := ch_step HR.out HG.out HC.out o3 s3
          rw [List.length_append, hl] at C
          exact ⟨k + 1, oo3, cc3, _, _, by go_num, by omega, rfl, by rw [hl], by rw [hl]; exact C⟩
        case measure => simp [intOf]; omega
      · have hmk' : (k : Int) < (m : Int) := by omega
        obtain ⟨y, hy⟩ : ∃ y, has[k]? = some y := ⟨_, List.getElem?_eq_getElem (by omega)⟩
        obtain ⟨hb', hoff, rfl, hhx⟩ := HH.out k y hy
        have zh := Gw.cell (g0.cell hhx (fun f => f)) (fun f => f)
        simp only [elB] at zh
        have hhf : has.getD k false = y := by rw [List.getD_eq_getElem?_getD, hy, Option.getD_some]
        cases y
        · skip
          have HR : Hid _ := R
          have HG : Hid (Fr no wr (Wd.alloc (.cells #[.string (lt k), .string (supL k), .slice none 0 0, .slice (some ⟨wr.heap.size + 2, 0, none⟩) 1 1, .slice none 0 0] 59))) := Gw.alloc _ _
          have HO : Hid (OwnG elKs (Wd.alloc (.cells #[.string (lt k), .string (supL k), .slice none 0 0, .slice (some ⟨wr.heap.size + 2, 0, none⟩) 1 1, .slice none 0 0] 59)) (.slice o (k + 1) c) ks ∧ ks.length = k + 1) := ⟨R.own.keep HG.out, R.len⟩
          have HC : Hid (ChAt (Wd.alloc (.cells #[.string (lt k), .string (supL k), .slice none 0 0, .slice (some ⟨wr.heap.size + 2, 0, none⟩) 1 1, .slice none 0 0] 59)) wr.heap.size (Wd.alloc (.cells #[.string (lt k), .string (supL k), .slice none 0 0, .slice (some ⟨wr.heap.size + 2, 0, none⟩) 1 1, .slice none 0 0] 59)).heap.size ⟨lt k, supL k, ⟨none, 0, 0⟩, ⟨some ⟨wr.heap.size + 2, 0, none⟩, 1, 1⟩, ⟨none, 0, 0⟩⟩ (kinds.getD k 0 % 3 + 1) (has.getD k false) k) := by
            have G1 : Fr no Wd (Wd.alloc (.cells #[.string (lt k), .string (supL k), .slice none 0 0, .slice (some ⟨wr.heap.size + 2, 0, none⟩) 1 1, .slice none 0 0] 59)) := (Fr.refl no Wd).alloc _ _
            refine ⟨rfl, rfl, rfl, ⟨wr.heap.size + 2, by omega, Nat.lt_of_lt_of_le (lt_of_heap Edc) G1.size, rfl, ?_⟩, fun e => ?_, fun _ => rfl⟩
            · have := G1.heap Edc (fun f => f)
              rw [this, hkd]
              rfl
            · rw [hhf] at e
              simp at e
          clear R Gw Edc
          go_wp2_with (first | (at_builtin; refine wpList_apdG okKs _ rfl rfl _ _ rfl (.slice o (k + 1) c) ks rfl HO.out.1 _ rfl [⟨lt k, supL k, ⟨none, 0, 0⟩, ⟨some ⟨wr.heap.size + 2, 0, none⟩, 1, 1⟩, ⟨none, 0, 0⟩⟩] (srcG_one okKs Wd _) (by simp) (by have := HO.out.2; simp only [List.length_singleton]; omega) ?_; intro v' w3 o3 s3; obtain ⟨oo3, cc3, rfl⟩ := o3.form; have HO3 : Hid (_ ∧ _) := ⟨o3, s3⟩; clear o3 s3) | go_in)
          go_roundw
          case rel =>
            obtain ⟨o3, s3⟩ := HO3.out
            have hl := HO.out.2
            have C := ch_step HR.out HG.out HC.out o3 s3
            rw [List.length_append, hl] at C
            exact ⟨k + 1, oo3, cc3, _, _, by go_num, by omega, rfl, by rw [hl], by rw [hl]; exact C⟩
          case measure => simp [intOf]; omega
        · skip
          have HR : Hid _ := R
          have CR := ret_at' Wd sm
          have HWD : Hid (Fr no wr Wd ∧ Wd.heap[wr.heap.size]? = some (.cells #[.string (lt k), .string (supL k), .slice none 0 0, .slice (some ⟨wr.heap.size + 2, 0, none⟩) 1 1, .slice none 0 0] 59 (0, 0)) ∧ Wd.heap[wr.heap.size + 2]? = some (.cells #[.string (fnm k), .int .i64 ((x : Int) % 3 + 1), .string ⟨#[]⟩, .bool false] 33 (0, 0))) := ⟨Gw, Ed, Edc⟩
          clear R Gw Edc Ed
          go_wp2_with fail
          refine CR.mono ?_
          rintro e w5 ⟨cm, rfl, hcm, hcc, f5⟩
          unfold msV retS
          have G5 : Fr no wr w5 := HWD.out.1.new f5 (fun _ _ f => f)
          generalize hW6 : w5.alloc (.cells #[.string sm, .slice none 0 0, .int .i64 0, .string ⟨#[]⟩, .int .i64 1, .int .i64 0, .slice (some ⟨cm, 0, none⟩) 1 1, .slice none 0 0] 51) = W6
          have G6 : Fr no w5 W6 := by rw [← hW6]; exact (Fr.refl no w5).alloc _ _
          have E6m : W6.heap[w5.heap.size]? = some (.cells #[.string sm, .slice none 0 0, .int .i64 0, .string ⟨#[]⟩, .int .i64 1, .int .i64 0, .slice (some ⟨cm, 0, none⟩) 1 1, .slice none 0 0] 51 (0, 0)) := by rw [← hW6]; exact heap_alloc_new w5 _
          have E6 := G6.heap (f5.heap HWD.out.2.1 (fun f => f)) (fun f => f)
          have y64 := (box5 E6).2.2.2.2
          have f64 := frozen_at (o := 4) E6
          generalize hW7 : W6.setCell ⟨wr.heap.size, 4, none⟩ (.slice (some ⟨w5.heap.size, 0, none⟩) 1 1) = W7
          have G7 : Fr (fun k => k = wr.heap.size) W6 W7 := by rw [← hW7]; exact (Fr.refl (fun k => k = wr.heap.size) W6).setCell (p := ⟨wr.heap.size, 4, none⟩) (fun _ => rfl) _
          have E7 : W7.heap[wr.heap.size]? = some (.cells #[.string (lt k), .string (supL k), .slice none 0 0, .slice (some ⟨wr.heap.size + 2, 0, none⟩) 1 1, .slice (some ⟨w5.heap.size, 0, none⟩) 1 1] 59 (0, 0)) := by rw [← hW7]; exact one5' E6 _
          obtain ⟨y70, y71, y72, y73, y74⟩ := box5 E7
          have s5 : wr.heap.size + 2 < w5.heap.size := lt_of_heap (f5.heap HWD.out.2.2 (fun f => f))
          have swd : wr.heap.size + 2 < Wd.heap.size := lt_of_heap HWD.out.2.2
          have E7f := G7.heap (G6.heap (f5.heap HWD.out.2.2 (fun f => f)) (fun f => f)) (by omega)
          have E7m := G7.heap E6m (by omega)
          have E7c := G7.heap (G6.heap hcc (fun f => f)) (by omega)
          have Gw7 : Fr no wr W7 := (G5.new G6 (fun _ _ f => f)).new G7 (fun i hi e => by omega)
          have HG : Hid (Fr no wr (W7.alloc (.cells #[.string (lt k), .string (supL k), .slice none 0 0, .slice (some ⟨wr.heap.size + 2, 0, none⟩) 1 1, .slice (some ⟨w5.heap.size, 0, none⟩) 1 1] 59))) := Gw7.alloc _ _
          have HO : Hid (OwnG elKs (W7.alloc (.cells #[.string (lt k), .string (supL k), .slice none 0 0, .slice (some ⟨wr.heap.size + 2, 0, none⟩) 1 1, .slice (some ⟨w5.heap.size, 0, none⟩) 1 1] 59)) (.slice o (k + 1) c) ks ∧ ks.length = k + 1) := ⟨HR.out.own.keep HG.out, HR.out.len⟩
          have HC : Hid (ChAt (W7.alloc (.cells #[.string (lt k), .string (supL k), .slice none 0 0, .slice (some ⟨wr.heap.size + 2, 0, none⟩) 1 1, .slice (some ⟨w5.heap.size, 0, none⟩) 1 1] 59)) wr.heap.size (W7.alloc (.cells #[.string (lt k), .string (supL k), .slice none 0 0, .slice (some ⟨wr.heap.size + 2, 0, none⟩) 1 1, .slice (some ⟨w5.heap.size, 0, none⟩) 1 1] 59)).heap.size ⟨lt k, supL k, ⟨none, 0, 0⟩, ⟨some ⟨wr.heap.size + 2, 0, none⟩, 1, 1⟩, ⟨some ⟨w5.heap.size, 0, none⟩, 1, 1⟩⟩ (kinds.getD k 0 % 3 + 1) (has.getD k false) k) := by
            have G1 : Fr no W7 (W7.alloc (.cells #[.string (lt k), .string (supL k), .slice none 0 0, .slice (some ⟨wr.heap.size + 2, 0, none⟩) 1 1, .slice (some ⟨w5.heap.size, 0, none⟩) 1 1] 59)) := (Fr.refl no W7).alloc _ _
            have l1 := lt_of_heap (G1.heap E7f (fun f => f))
            have l2 := lt_of_heap (G1.heap E7m (fun f => f))
            have l3 := lt_of_heap (G1.heap E7c (fun f => f))
            refine ⟨rfl, rfl, rfl, ⟨wr.heap.size + 2, by omega, l1, rfl, ?_⟩, fun _ => ⟨w5.heap.size, cm, ⟨by omega, l2⟩, ⟨by omega, l3⟩, rfl, ?_, ?_⟩, fun e => ?_⟩
            · have := G1.heap E7f (fun f => f)
              rw [this, hkd]
              rfl
            · exact G1.heap E7m (fun f => f)
            · exact G1.heap E7c (fun f => f)
            · rw [hhf] at e
              simp at e
          clear CR hcc E6m E6 E7 E7f E7m E7c Gw7 G5 G6 G7
          go_wp2_with (first | (at_builtin; refine wpList_apdG okKs _ rfl rfl _ _ rfl (.slice o (k + 1) c) ks rfl HO.out.1 _ rfl [⟨lt k, supL k, ⟨none, 0, 0⟩, ⟨some ⟨wr.heap.size + 2, 0, none⟩, 1, 1⟩, ⟨some ⟨w5.heap.size, 0, none⟩, 1, 1⟩⟩] (srcG_one okKs W7 _) (by simp) (by have := HO.out.2; simp only [List.length_singleton]; omega) ?_; intro v' w3 o3 s3; obtain ⟨oo3, cc3, rfl⟩ := o3.form; have HO3 : Hid (_ ∧ _) := ⟨o3, s3⟩; clear o3 s3) | go_in)
          go_roundw
          case rel =>
            obtain ⟨o3, s3⟩ := HO3.out
            have hl := HO.out.2
            have C := ch_step HR.out HG.out HC.out o3 s3
            rw [List.length_append, hl] at C
            exact ⟨k + 1, oo3, cc3, _, _, by go_num, by omega, rfl, by rw [hl], by rw [hl]; exact C⟩
          case measure => simp [intOf]; omega
    · have hkn' : k = n := by omega
      subst hkn'
      have HR : Hid _ := R
      clear R
      go_wp2_with fail
      go_ret
      exact ⟨_, w1, ks, bs, rfl, HR.out, HM.out.2⟩
end Go.Proofs.YtcbpmahekgkjlaaGreatDoor

/- The chain, linked. -/
namespace Go.Proofs.YtcbpmahekgkjlaaGreatDoor
open Go.ChangeShapes Go.WideShapes Go.ChangeAt Go.RowKit
open H (ix NewV)

theorem ChRow.cs {w1 w : World} {v : Value} {kd : Nat → Nat} {hs : Nat → Bool} {n : Nat} {ks : List Ks} {bs : Nat → Nat} (R : ChRow w1 w v kd hs n ks bs) : CsAt w v (chain kd hs n) := by
  refine ⟨⟨ks, R.own.sl okKs, by rw [R.len]; simp [chain, chs], fun i s c hi hc => ?_⟩⟩
  match i, hi, hc with
  | 0, hi, hc =>
    obtain ⟨s', h1, h2⟩ := R.main
    rw [h1] at hi
    have hc' : some mainC = some c := hc
    simp only [Option.some.injEq] at hi hc'
    subst hi hc'
    exact h2.kept R.fr
  | j + 1, hi, hc =>
    have hc' : (chs kd hs n)[j]? = some c := hc
    unfold chs at hc'
    rw [List.getElem?_map] at hc'
    have hj : j < n := by
      have := (List.getElem?_eq_some_iff.1 hi).1
      rw [R.len] at this
      omega
    rw [List.getElem?_range hj] at hc'
    simp only [Option.map_some, Option.some.injEq] at hc'
    subst hc'
    obtain ⟨s', h1, h2⟩ := R.cls j hj
    rw [h1] at hi
    simp only [Option.some.injEq] at hi
    subst hi
    exact h2.cl

theorem fitS_lt (i : Nat) : fitS (lt i) := by show (1 : Nat) ≤ _; decide
theorem fitS_fnm (i : Nat) : fitS (fnm i) := by show (2 : Nat) ≤ _; decide
theorem fitS_e0 : fitS e0 := by show (0 : Nat) ≤ _; decide
theorem fit_ch (k : Nat) (h : Bool) (i : Nat) : FitC (chC k h i) := by
  refine ⟨fitS_lt i, ?_, fun x hx => by simp [chC] at hx, fun x hx => ?_, fun m hm => ?_⟩
  · show fitS (supL i)
    unfold supL
    split
    · exact fitS_e0
    · exact fitS_lt _
  · have hx' : x ∈ [fdOf k i] := hx
    simp only [List.mem_cons, List.not_mem_nil, or_false] at hx'
    subst hx'
    exact ⟨fitS_fnm i, fitS_e0⟩
  · have hm' : m ∈ msL h := hm
    unfold msL at hm'
    split at hm'
    · simp only [List.mem_cons, List.not_mem_nil, or_false] at hm'
      subst hm'
      exact fit_ret _ (by decide)
    · simp at hm'
theorem fit_chain (kd : Nat → Nat) (hs : Nat → Bool) (n : Nat) : ∀ c ∈ chain kd hs n, FitC c := fun c hc => by
  unfold chain at hc
  rw [List.mem_cons] at hc
  rcases hc with rfl | hc
  · exact fit_main
  · obtain ⟨i, -, rfl⟩ := List.mem_map.1 hc
    exact fit_ch _ _ _

/-- Link of a chain: a program. -/
theorem chain_links {w1 w : World} (T : Tb w) (Rt : Tr w) {v : Value} {kd : Nat → Nat} {hs : Nat → Bool} {n : Nat} {ks : List Ks} {bs : Nat → Nat} (R : ChRow w1 w v kd hs n ks bs) (hn : n ≤ 12) (hk : ∀ i, kd i = 1 ∨ kd i = 2 ∨ kd i = 3) :
    Calls Tryz.prog 7 #[v] w fun e w' => ∃ p, e = .returned (.tuple #[.pointer (some ⟨p, 0, none⟩), .int .i64 0]) ∧ Prg w' p (allC (chain kd hs n)) (newC (chain kd hs n)).2.2 ∧ (∀ c ∈ allC (chain kd hs n), SmallC c) ∧ Fr no w w' := by
  refine (link_any w T Rt v _ R.cs (fit_chain _ _ _) (by simp [chain, chs]; omega)).mono ?_
  rintro e w' ⟨q, rfl, hat, f⟩
  have h0 := chain_link (kd := kd) (hs := hs) hn hk
  obtain ⟨p, rfl, hP, hsm⟩ := hat.2 h0
  exact ⟨p, by rw [h0], hP, hsm, f⟩

/-- Who is called. -/
def nearS (hs : Nat → Bool) : Nat → ByteArray
  | 0 => e0
  | i + 1 => if hs i = true then lt i else nearS hs i
theorem near_name {kd : Nat → Nat} {hs : Nat → Bool} {n : Nat} : ∀ i, i ≤ n → (near hs i = none → nearS hs i = e0) ∧ ∀ q, near hs i = some q → (clsAt (allC (chain kd hs n)) q.1).name = nearS hs i ∧ methAt (allC (chain kd hs n)) q = some (retM sm) ∧ nearS hs i ≠ e0
  | 0, _ => ⟨fun _ => rfl, fun q hq => by simp [near] at hq⟩
  | i + 1, hi => by
    obtain ⟨ih1, ih2⟩ := near_name (kd := kd) (n := n) i (by omega)
    unfold near nearS
    by_cases h : hs i = true
    · rw [if_pos h, if_pos h]
      refine ⟨fun e => by simp at e, fun q hq => ?_⟩
      simp only [Option.some.injEq] at hq
      subst hq
      refine ⟨by rw [chain_at (by omega)]; rfl, ?_, fun e => ?_⟩
      · unfold methAt
        rw [chain_at (by omega), h]
        rfl
      · have h1 : (1 : Nat) = 0 := congrArg ByteArray.size e
        exact absurd h1 (by decide)
    · rw [if_neg h, if_neg h]
      exact ⟨ih1, ih2⟩
end Go.Proofs.YtcbpmahekgkjlaaGreatDoor

/- What the program's start lays: from the rows' condition on package-level variables to the two tables that the calls read. And what came in reads as before behind a call that made new memory alone. -/
namespace Go.Proofs.YtcbpmahekgkjlaaGreatDoor
open Go.ChangeShapes Go.WideShapes Go.ChangeAt Go.RowKit Go.Deep

theorem ownNone : ownKnob Tryz.prog.godebug = none := by kernel_rfl

/-- The variables that the rows list. -/
abbrev laid2 : List (String × DataW Unit) := Rows.linkSlotsRow.laid

theorem door_met2 (os : Os) (args : Array Value) : laidMetH Tryz.prog laid2 ((World.doorLaid Tryz.prog 19 os).forCall (fun _ _ => 0) ⟨#[], args, []⟩).memory :=
  laidMetH_of_parts3 (fuel := 8) (laidMet_of_run' 8 (by kernel_rfl) (by kernel_rfl)) (by kernel_rfl) (by kernel_rfl)

theorem of_laid2 {W : World} (h : laidMetH Tryz.prog laid2 W) : Tb W ∧ Tr W := by
  rw [MakeChecks.laidMetH_plain _ _ _ (by kernel_rfl)] at h
  have h2 := h.tail
  have op : Lib.TabIs Tryz.prog W "loom/code.operands" .i8 opds := Lib.tabIs_of_head (g := 0) (t := 171) (e := 170) (n := 48) (zs := opds) (by kernel_rfl) (by kernel_rfl) Tryz.underlying171 Tryz.underlying170 (by kernel_rfl) (by kernel_rfl) h
  have tr : Lib.TabIs Tryz.prog W "loom/code.traits" .u8 trts := Lib.tabIs_of_head (g := 1) (t := 172) (e := 5) (n := 48) (zs := trts) (by kernel_rfl) (by kernel_rfl) Tryz.underlying172 Tryz.underlying5 (by kernel_rfl) (by kernel_rfl) h2
  exact ⟨⟨fun n hn => op.cell (g := 0) (by kernel_rfl) n hn⟩, fun n hn => tr.cell (g := 1) (by kernel_rfl) n hn⟩

theorem Fr.keptBut {w w' : World} (h : Fr no w w') (may : MemPlace → Prop) : w.keptBut w' may := by
  refine ⟨h.os, h.output, fun i hi => ?_⟩
  rw [h.block i hi (fun f => f)]
  split <;> simp_all

abbrev RdU (w : World) (v : Value) (l : List Nat) : Prop := H.SlG elU w v l
abbrev RdB (w : World) (v : Value) (l : List Bool) : Prop := H.SlG elB w v l
section
variable {H : Type} {enc : TypeId × Value → H} {w : World} {spare : Nat → Bool} {held : Bool}

/-- The row's own condition behind a call that leaves all old memory as it was, the frozen marks of it too. -/
theorem post_old {P : Program} {f : Func} {s : ChangeSpec} {apart fresh handsOn again : Bool} {W W' : World} {args : Array Value} {v : Value} {ds gs : List (DataW H)} {before pa pv : List MemPlace}
    (hW : DataW.Whole enc P f.params.toList s.vars apart W args.toList ds gs before)
    (hres : ∀ (b : Nat) (sp : Nat → Bool) (hd : Bool), DataW.TrodAll enc P W' b sp hd f.resultTypes.toList (v.resultList f.resultTypes.size) (s.fn H (ds ++ gs)).results [])
    (hargs : ∀ sp : Nat → Bool, (∀ p ∈ before, sp p.block = true) → DataW.TrodAll enc P W' 0 sp true f.params.toList args.toList (s.fn H (ds ++ gs)).args pa)
    (hvars : ∀ sp : Nat → Bool, (∀ p ∈ before, sp p.block = true) → DataW.TrodVars enc P W' sp s.vars (s.fn H (ds ++ gs)).vars pv)
    (hps : before = pa ++ pv) (hg : Fr no W W')
    (hok : ∀ (j : Nat) (t : TypeId) (r : Value), f.resultTypes[j]? = some t → (v.resultList f.resultTypes.size)[j]? = some r → Value.okWide P W' .any 0 t r) :
    s.post enc P f apart fresh handsOn again W args v W' := by
  have hlt : ∀ p ∈ before, p.block < W.heap.size := fun p hp => hW.lt p hp
  have hold : ∀ p ∈ before, (fun b => decide (b < W.heap.size)) p.block = true := fun p hp => by simpa using hlt p hp
  refine ⟨ds, gs, before, [], pa, pv, hW, hres _ _ _, hargs _ hold, hvars _ hold, World.keptBut_mono (fun p hp => ⟨hp, ?_⟩) (hg.keptBut (· ∈ before)), fun _ => ?_⟩
  · rw [hps, List.mem_append] at hp
    exact Or.inr hp
  · obtain ⟨_, _, _, _, _, hz, hn⟩ := hW
    refine ⟨hok, _, _, ([] ++ pa) ++ pv, ⟨[] ++ pa, pv, trodAll_append (hargs _ (fun _ _ => rfl)) (hres _ _ _), hvars _ (fun _ _ => rfl), rfl, ?_, ?_⟩, ?_⟩
    · intro b off hp
      have hp' : MemPlace.cell b off ∈ before := by rw [hps]; simpa using hp
      rw [hg.frozen _ (hlt _ hp')]
      exact hz b off hp'
    · intro ha
      have := hn ha
      rw [hps] at this
      simpa using this
    · intro p hp _
      rw [hps]
      simpa using hp

theorem Tryz.cells5 : Tryz.prog.cellsOf 5 = 1 := by kernel_rfl
theorem open_u8s {v : Value} {d : DataW H} {ps : List MemPlace} (hv : ∃ a len cap, v = .slice a len cap) (h : DataW.Trod enc Tryz.prog w 0 spare held 22 v d ps) : ∃ bs : List Nat, (∀ c ∈ bs, c < 256) ∧ RdU w v bs := by
  obtain ⟨a0, len0, cap0, rfl⟩ := hv
  obtain ⟨fuel, h⟩ := h
  rcases open_ints Tryz.underlying22 Tryz.underlying5 Tryz.cells5 h with ⟨e, _⟩ | ⟨a, len, cap, zs, e, _, hl, hm, hz, _, hc, hw⟩
  · have e' : Value.slice a0 len0 cap0 = .slice none 0 0 := by simpa [Value.cells] using e
    rw [e']
    exact ⟨[], fun c hc => by simp at hc, none, 0, rfl, Nat.zero_le _, Nat.zero_le _, fun _ => ⟨rfl, rfl⟩, fun i x hx => by simp at hx⟩
  · have e' : Value.slice a0 len0 cap0 = .slice (some a) len cap := by simpa [Value.cells] using e
    rw [e']
    have hlz : len ≤ zs.length := by rw [hz]; split <;> omega
    have hb : ∀ z ∈ zs, 0 ≤ z ∧ z ≤ 255 := fun z hz => by simpa [Lit.wf, IntKind.min, IntKind.max, IntKind.signed, IntKind.bits] using hw z hz
    have hln : ((zs.take len).map Int.toNat).length = len := by simp; omega
    refine ⟨(zs.take len).map Int.toNat, fun c hc' => ?_, some a, cap, by rw [hln], by rw [hln]; exact hl, hm, fun e => by simp at e, fun i c hi => ?_⟩
    · obtain ⟨z, hz1, rfl⟩ := List.mem_map.1 hc'
      have := hb z (List.mem_of_mem_take hz1)
      omega
    · rw [List.getElem?_map, List.getElem?_take] at hi
      split at hi
      · rename_i hil
        have hil' : i < zs.length := by omega
        have h1 := hc i hil'
        obtain ⟨b, o, spot⟩ := a
        have hspot : spot = none := by
          have h0 := hc 0 (by omega)
          simpa [Addr.add] using World.cell?_spot h0
        subst hspot
        rw [Addr.add_lit] at h1
        rw [List.getElem?_eq_getElem hil'] at hi
        simp at hi
        have h2 := hb zs[i] (List.getElem_mem hil')
        have e3 : zs.getD i 0 = (c : Int) := by rw [List.getD_eq_getElem?_getD, List.getElem?_eq_getElem hil', Option.getD_some]; omega
        refine ⟨b, o, rfl, ?_⟩
        rw [h1, e3]
        rfl
      · simp at hi

theorem Tryz.cells4 : Tryz.prog.cellsOf 4 = 1 := by kernel_rfl
theorem open_bls {v : Value} {d : DataW H} {ps : List MemPlace} (hv : ∃ a len cap, v = .slice a len cap) (h : DataW.Trod enc Tryz.prog w 0 (fun _ => true) held 46 v d ps) : ∃ bs : List Bool, RdB w v bs := by
  obtain ⟨a0, len0, cap0, rfl⟩ := hv
  obtain ⟨fuel, h⟩ := h
  rcases open_bools Tryz.underlying46 Tryz.underlying4 Tryz.cells4 h with ⟨e, _⟩ | ⟨a, len, cap, B, e, _, hl, hm, _, hc⟩
  · have e' : Value.slice a0 len0 cap0 = .slice none 0 0 := by simpa [Value.cells] using e
    rw [e']
    exact ⟨[], none, 0, rfl, Nat.zero_le _, Nat.zero_le _, fun _ => ⟨rfl, rfl⟩, fun i x hx => by simp at hx⟩
  · have e' : Value.slice a0 len0 cap0 = .slice (some a) len cap := by simpa [Value.cells] using e
    rw [e']
    have hln : ((List.range len).map B).length = len := by simp
    refine ⟨(List.range len).map B, some a, cap, by rw [hln], by rw [hln]; exact hl, hm, fun e => by simp at e, fun i c hi => ?_⟩
    have hil : i < len := by
      have := (List.getElem?_eq_some_iff.1 hi).1
      rwa [hln] at this
    rw [List.getElem?_map, List.getElem?_range hil] at hi
    simp only [Option.map_some, Option.some.injEq] at hi
    subst hi
    have h1 := hc i (by omega)
    obtain ⟨b, o, spot⟩ := a
    have hspot : spot = none := by
      have h0 := hc 0 (by omega)
      simpa [Addr.add] using World.cell?_spot h0
    subst hspot
    rw [Addr.add_lit] at h1
    exact ⟨b, o, rfl, h1⟩

theorem Tryz.laidOut : laidOutB Tryz.prog = true := by kernel_rfl

theorem Fr.same {W w' : World} (h : Fr no W w') {p : MemPlace} (hp : p.block < W.heap.size) : W.sameAt w' p := by
  cases p with
  | cell b o => exact World.cell?_of_block (w := W) (h.block b hp (fun f => f))
  | map b => exact h.block b hp (fun f => f)

/-- What came in reads as before, behind a call that made new memory alone. -/
theorem trod_after {t : TypeId} (hr : Tryz.prog.readableRec t = true) (hrow : t < Tryz.prog.types.size) {W W' : World} {v : Value} {d : DataW H} {ps : List MemPlace} (h : DataW.Trod enc Tryz.prog W 0 (fun _ => true) true t v d ps) (hf : Fr no W W')
    (hlt : ∀ x ∈ ps, x.block < W.heap.size) {sp : Nat → Bool} (hsp : ∀ x ∈ ps, sp x.block = true) : DataW.Trod enc Tryz.prog W' 0 sp true t v d ps :=
  WideElems.Trod_stays Tryz.laidOut hr hrow h (fun x hx => hf.same (hlt x hx)) (fun x hx => hsp x hx)
end
end Go.Proofs.YtcbpmahekgkjlaaGreatDoor
