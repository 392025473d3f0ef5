/- What is right with a class of which Check tells nothing; and the bytes of a class. -/
import Derived.Test.YthncdbobjeeeaaaGreatDoorGk
namespace Go.Proofs.YthncdbobjeeeaaaGreatDoor

theorem firstE_zero {α : Type} (ask : α → List α → Nat) (l : List α) : ∀ ahead, firstE ask ahead l = 0 → ∀ x ∈ l, ∃ a, ask x a = 0 := by
  induction l with
  | nil => intro _ _ x hx; simp at hx
  | cons y r ih =>
    intro ahead h x hx
    unfold firstE at h
    by_cases h0 : ask y ahead = 0
    · rw [if_neg (fun h => h h0)] at h
      rcases List.mem_cons.1 hx with rfl | hx
      · exact ⟨_, h0⟩
      · exact ih _ h x hx
    · rw [if_pos h0] at h; exact absurd h h0

theorem eachE_zero {α : Type} (most : Nat) (ask : α → List α → Nat) (l : List α) (h : eachE most ask l = 0) : l.length ≤ most ∧ ∀ x ∈ l, ∃ a, ask x a = 0 := by
  unfold eachE at h
  by_cases h0 : most < l.length
  · rw [if_pos h0] at h; simp at h
  · rw [if_neg h0] at h
    exact ⟨by omega, firstE_zero ask l [] h⟩

theorem name_size (s : ByteArray) (h : isName s = true) : 0 < s.size ∧ s.size ≤ 20 := by
  unfold isName nameL at h
  simp only [Bool.and_eq_true, decide_eq_true_eq] at h
  obtain ⟨⟨⟨h1, h2⟩, _⟩, _⟩ := h
  rw [nl_length] at h2
  refine ⟨?_, h2⟩
  have := List.length_pos_iff.2 h1
  rwa [nl_length] at this

theorem e0_size : e0.size = 0 := rfl

/-- A type that may be. -/
structure VTy (t : Ty) : Prop where
  lo : 0 ≤ t.k
  hi : t.k ≤ 4
  sz : t.c.size ≤ 20
  em : t.k ≠ 4 → t.c = e0

theorem vty (t : Ty) (v : Bool) (h : isType t v = true) : VTy t := by
  unfold isType at h
  by_cases h4 : t.k = 4
  · rw [if_pos h4] at h
    exact ⟨by omega, by omega, (name_size _ h).2, fun h => absurd h4 h⟩
  · rw [if_neg h4] at h
    by_cases h1 : t.k = 1 ∨ t.k = 2 ∨ t.k = 3
    · rw [if_pos h1] at h
      have h := of_decide_eq_true h
      exact ⟨by omega, by omega, by rw [h, e0_size]; omega, fun _ => h⟩
    · rw [if_neg h1] at h
      by_cases h0 : t.k = 0
      · rw [if_pos h0] at h
        simp only [Bool.and_eq_true, decide_eq_true_eq] at h
        exact ⟨by omega, by omega, by rw [h.2, e0_size]; omega, fun _ => h.2⟩
      · rw [if_neg h0] at h; simp at h

/-- A constant that may be. -/
structure VCs (x : Cs) : Prop where
  lo : 1 ≤ x.k
  hi : x.k ≤ 5
  sc : x.c.size ≤ 20
  sm : x.m.size ≤ 20
  n : x.k ≠ 1 → x.n = 0
  z : x.k ≠ 2 → x.re = 0 ∧ x.im = 0
  c : x.k < 3 → x.c = e0
  m : x.k < 4 → x.m = e0

theorem vcs (x : Cs) (h : ckCs x = 0) : VCs x := by
  unfold ckCs at h
  by_cases h1 : x.k = 1
  · rw [if_pos h1] at h
    by_cases g : x.re = 0 ∧ x.im = 0 ∧ x.c = e0 ∧ x.m = e0
    · exact ⟨by omega, by omega, by rw [g.2.2.1, e0_size]; omega, by rw [g.2.2.2, e0_size]; omega, fun h => absurd h1 h, fun _ => ⟨g.1, g.2.1⟩, fun _ => g.2.2.1, fun _ => g.2.2.2⟩
    · rw [if_neg g] at h; simp at h
  rw [if_neg h1] at h
  by_cases h2 : x.k = 2
  · rw [if_pos h2] at h
    by_cases g : x.n = 0 ∧ x.c = e0 ∧ x.m = e0
    · exact ⟨by omega, by omega, by rw [g.2.1, e0_size]; omega, by rw [g.2.2, e0_size]; omega, fun _ => g.1, fun h => absurd h2 h, fun _ => g.2.1, fun _ => g.2.2⟩
    · rw [if_neg g] at h; simp at h
  rw [if_neg h2] at h
  by_cases h3 : x.k = 3
  · rw [if_pos h3] at h
    by_cases g : x.n = 0 ∧ x.re = 0 ∧ x.im = 0 ∧ x.m = e0
    · rw [if_pos g] at h
      by_cases gn : isName x.c = true
      · exact ⟨by omega, by omega, (name_size _ gn).2, by rw [g.2.2.2, e0_size]; omega, fun _ => g.1, fun _ => ⟨g.2.1, g.2.2.1⟩, fun h => by omega, fun _ => g.2.2.2⟩
      · rw [if_neg gn] at h; simp at h
    · rw [if_neg g] at h; simp at h
  rw [if_neg h3] at h
  by_cases h4 : x.k = 4 ∨ x.k = 5
  · rw [if_pos h4] at h
    by_cases g : x.n = 0 ∧ x.re = 0 ∧ x.im = 0
    · rw [if_pos g] at h
      by_cases gn : isName x.c = true ∧ isName x.m = true
      · exact ⟨by omega, by omega, (name_size _ gn.1).2, (name_size _ gn.2).2, fun _ => g.1, fun _ => g.2, fun h => by omega, fun h => by omega⟩
      · rw [if_neg gn] at h; simp at h
    · rw [if_neg g] at h; simp at h
  · rw [if_neg h4] at h; simp at h

/-- A field that may be. -/
structure VFd (x : Fd) : Prop where
  name : x.name.size ≤ 20
  ty : VTy x.ty

theorem vfd (x : Fd) (a : List Fd) (h : ckFd x a = 0) : VFd x := by
  unfold ckFd at h
  by_cases g : isName x.name = true ∧ isType x.ty false = true
  · exact ⟨(name_size _ g.1).2, vty _ _ g.2⟩
  · rw [if_neg g] at h; simp at h

/-- A handler that may be. -/
structure VHd (h : Hd) : Prop where
  fr : 0 ≤ h.fr ∧ h.fr ≤ 200
  to : 0 ≤ h.to ∧ h.to ≤ 200
  tg : 0 ≤ h.tg ∧ h.tg ≤ 200
  cl : -1 ≤ h.cl ∧ h.cl ≤ 127
  dp : 0 ≤ h.dp ∧ h.dp ≤ 6

theorem cst_lt (pool : List Cs) (a k : Int) (h : isCst pool a k = true) : 0 ≤ a ∧ a < (pool.length : Int) := by
  unfold isCst at h
  simp only [Bool.and_eq_true, decide_eq_true_eq] at h
  obtain ⟨h0, h⟩ := h
  refine ⟨h0, ?_⟩
  cases e : pool[a.toNat]? with
  | none => rw [e] at h; simp at h
  | some x =>
    have := (List.getElem?_eq_some_iff.1 e).1
    omega

theorem vhd (pool : List Cs) (n : Nat) (h : Hd) (hp : pool.length ≤ 128) (hn : n ≤ 200) (hk : ckHd pool n h = 0) : VHd h := by
  unfold ckHd at hk
  by_cases g : 0 ≤ h.fr ∧ h.fr < h.to ∧ h.to ≤ (n : Int) ∧ 0 ≤ h.tg ∧ h.tg < (n : Int)
  · rw [if_pos g] at hk
    by_cases c : h.cl = -1 ∨ isCst pool h.cl 3 = true
    · rw [if_pos c] at hk
      by_cases d : 0 ≤ h.dp ∧ h.dp ≤ 6
      · refine ⟨by omega, by omega, by omega, ?_, d⟩
        rcases c with c | c
        · omega
        · have := cst_lt _ _ _ c; omega
      · rw [if_neg d] at hk; simp at hk
    · rw [if_neg c] at hk; simp at hk
  · rw [if_neg g] at hk; simp at hk

/-- A method that may be. -/
structure VMt (m : Mt) : Prop where
  name : m.name.size ≤ 20
  pl : m.params.length ≤ 6
  params : ∀ t ∈ m.params, VTy t
  ret : VTy m.ret
  lo : 0 ≤ m.lo ∧ m.lo ≤ 32
  st : 0 ≤ m.st ∧ m.st ≤ 64
  cl : m.code.length ≤ 200
  code : allIs m.code = true
  hl : m.hands.length ≤ 16
  hands : ∀ h ∈ m.hands, VHd h

theorem vmt (pool : List Cs) (m : Mt) (a : List Mt) (hp : pool.length ≤ 128) (h : ckMt pool m a = 0) : VMt m := by
  unfold ckMt at h
  by_cases hf : ckFace m a = 0
  · rw [if_neg (fun h => h hf)] at h
    have hpl := face_params m a hf
    unfold ckFace at hf
    by_cases g1 : isName m.name = true
    · rw [if_pos g1] at hf
      by_cases g2 : eachE 6 ckTy m.params = 0
      · rw [if_neg (fun h => h g2)] at hf
        by_cases g3 : isType m.ret true = true
        · unfold ckBody at h
          by_cases b1 : 1 + (m.params.length : Int) ≤ m.lo ∧ m.lo ≤ 32 ∧ 0 ≤ m.st ∧ m.st ≤ 64
          · rw [if_pos b1] at h
            by_cases b2 : m.code.length = 0
            · rw [if_pos b2] at h; simp at h
            · rw [if_neg b2] at h
              by_cases b3 : eachE 200 (fun x _ => ckIns pool m.lo m.code.length x) m.code = 0
              · rw [if_neg (fun h => h b3)] at h
                by_cases b4 : has (m.code.getD (m.code.length - 1) (0, 0)).1 1 = true
                · rw [if_pos b4] at h
                  have e1 := eachE_zero _ _ _ b3
                  have e2 := eachE_zero _ _ _ h
                  refine ⟨(name_size _ g1).2, hpl, fun t ht => ?_, vty _ _ g3, by omega, by omega, e1.1, ?_, e2.1, fun x hx => ?_⟩
                  · obtain ⟨a, ha⟩ := (eachE_zero _ _ _ g2).2 t ht
                    unfold ckTy at ha
                    by_cases q : isType t false = true
                    · exact vty _ _ q
                    · rw [if_neg q] at ha; simp at ha
                  · unfold allIs
                    rw [List.all_eq_true]
                    intro x hx
                    obtain ⟨a, ha⟩ := e1.2 x hx
                    unfold ckIns at ha
                    by_cases q : isb x.1 x.2 = true
                    · exact q
                    · rw [if_neg q] at ha; simp at ha
                  · obtain ⟨a, ha⟩ := e2.2 x hx
                    exact vhd pool _ x hp e1.1 ha
                · rw [if_neg b4] at h; simp at h
              · rw [if_pos b3] at h; exact absurd h b3
          · rw [if_neg b1] at h; simp at h
        · rw [if_neg g3] at hf; simp at hf
      · rw [if_pos g2] at hf; exact absurd hf g2
    · rw [if_neg g1] at hf; simp at hf
  · rw [if_pos hf] at h; exact absurd h hf

/-- A class that may be. -/
structure VCl (c : Cl) : Prop where
  name : c.name.size ≤ 20
  super : c.super.size ≤ 20
  pl : c.pool.length ≤ 128
  pool : ∀ x ∈ c.pool, VCs x
  fl : c.fields.length ≤ 8
  fields : ∀ x ∈ c.fields, VFd x
  ml : c.methods.length ≤ 12
  methods : ∀ m ∈ c.methods, VMt m

theorem vcl (c : Cl) (h : chk c = 0) : VCl c := by
  unfold chk at h
  by_cases g1 : isName c.name = true ∧ (c.super = e0 ∨ isName c.super = true)
  · rw [if_pos g1] at h
    by_cases g2 : eachE 128 (fun x _ => ckCs x) c.pool = 0
    · rw [if_neg (fun h => h g2)] at h
      by_cases g3 : eachE 8 ckFd c.fields = 0
      · rw [if_neg (fun h => h g3)] at h
        have e1 := eachE_zero _ _ _ g2
        have e2 := eachE_zero _ _ _ g3
        have e3 := eachE_zero _ _ _ h
        refine ⟨(name_size _ g1.1).2, ?_, e1.1, fun x hx => ?_, e2.1, fun x hx => ?_, e3.1, fun x hx => ?_⟩
        · rcases g1.2 with q | q
          · rw [q, e0_size]; omega
          · exact (name_size _ q).2
        · obtain ⟨_, ha⟩ := e1.2 x hx
          exact vcs x ha
        · obtain ⟨a, ha⟩ := e2.2 x hx
          exact vfd x a ha
        · obtain ⟨a, ha⟩ := e3.2 x hx
          exact vmt _ x a e1.1 ha
      · rw [if_pos g3] at h; exact absurd h g3
    · rw [if_pos g2] at h; exact absurd h g2
  · rw [if_neg g1] at h; simp at h

/-! ### The bytes -/
def enTx (s : ByteArray) : List Nat := enc s.size ++ nl s
def enTy (t : Ty) : List Nat := t.k.toNat :: (if t.k = 4 then enTx t.c else [])
def enCs (x : Cs) : List Nat := x.k.toNat :: (if x.k = 1 then enc (fo x.n) else if x.k = 2 then le x.re 8 ++ le x.im 8 else if x.k = 3 then enTx x.c else if x.k = 4 ∨ x.k = 5 then enTx x.c ++ enTx x.m else [])
def enFd (x : Fd) : List Nat := enTx x.name ++ (enTy x.ty ++ [if x.vol = true then 1 else 0])
def enHd (h : Hd) : List Nat := enc h.fr.toNat ++ (enc h.to.toNat ++ (enc h.tg.toNat ++ (enc (h.cl + 1).toNat ++ enc h.dp.toNat)))
/-- So many, then each. -/
def enL {α : Type} (f : α → List Nat) (l : List α) : List Nat := enc l.length ++ l.flatMap f
def enMt (m : Mt) : List Nat := enTx m.name ++ (enL enTy m.params ++ (enTy m.ret ++ (enc m.lo.toNat ++ (enc m.st.toNat ++ ((enc (ptB m.code).length ++ ptB m.code) ++ enL enHd m.hands)))))
def enCl (c : Cl) : List Nat := [76, 79, 79, 77, 1] ++ (enTx c.name ++ (enTx c.super ++ (enL enCs c.pool ++ (enL enFd c.fields ++ enL enMt c.methods))))

theorem enTx_len (s : ByteArray) (h : s.size ≤ 20) : (enTx s).length ≤ 30 := by
  unfold enTx
  have := enc_length s.size
  rw [List.length_append, nl_length]
  omega
theorem enTy_len (t : Ty) (h : VTy t) : (enTy t).length ≤ 31 := by
  unfold enTy
  have := enTx_len _ h.sz
  split <;> simp <;> omega
theorem enCs_len (x : Cs) (h : VCs x) : (enCs x).length ≤ 61 := by
  unfold enCs
  have := enTx_len _ h.sc
  have := enTx_len _ h.sm
  have := enc_length (fo x.n)
  have := le_length x.re 8
  have := le_length x.im 8
  split
  · simp; omega
  split
  · simp; omega
  split
  · simp; omega
  split <;> simp <;> omega
theorem enFd_len (x : Fd) (h : VFd x) : (enFd x).length ≤ 62 := by
  unfold enFd
  have := enTx_len _ h.name
  have := enTy_len _ h.ty
  simp
  omega
theorem enHd_len (h : Hd) : (enHd h).length ≤ 50 := by
  unfold enHd
  have := enc_length h.fr.toNat
  have := enc_length h.to.toNat
  have := enc_length h.tg.toNat
  have := enc_length (h.cl + 1).toNat
  have := enc_length h.dp.toNat
  simp
  omega
theorem flat_len {α : Type} (f : α → List Nat) (l : List α) (n : Nat) (h : ∀ x ∈ l, (f x).length ≤ n) : (l.flatMap f).length ≤ l.length * n := by
  induction l with
  | nil => simp
  | cons x l ih =>
    have h1 := h x (by simp)
    have h2 := ih (fun y hy => h y (by simp [hy]))
    rw [List.flatMap_cons, List.length_append, List.length_cons, Nat.add_mul, Nat.one_mul]
    omega
theorem enL_len {α : Type} (f : α → List Nat) (l : List α) (n : Nat) (h : ∀ x ∈ l, (f x).length ≤ n) : (enL f l).length ≤ 10 + l.length * n := by
  unfold enL
  have := enc_length l.length
  have := flat_len f l n h
  rw [List.length_append]
  omega
theorem ptB_len (l : List (Int × Int)) (h : l.length ≤ 200) : (ptB l).length ≤ 2210 := by
  unfold ptB
  split
  · exact put_length l h
  · simp
theorem enMt_len (m : Mt) (h : VMt m) : (enMt m).length ≤ 3400 := by
  unfold enMt
  have a1 := enTx_len _ h.name
  have a2 := enL_len enTy m.params 31 (fun t ht => enTy_len t (h.params t ht))
  have a3 := enTy_len _ h.ret
  have a4 := enc_length m.lo.toNat
  have a5 := enc_length m.st.toNat
  have a6 := ptB_len m.code h.cl
  have a7 := enc_length (ptB m.code).length
  have a8 := enL_len enHd m.hands 50 (fun x _ => enHd_len x)
  have b1 := h.pl
  have b2 := h.hl
  simp only [List.length_append]
  have c1 : m.params.length * 31 ≤ 6 * 31 := Nat.mul_le_mul_right _ b1
  have c2 : m.hands.length * 50 ≤ 16 * 50 := Nat.mul_le_mul_right _ b2
  omega
theorem enCl_len (c : Cl) (h : VCl c) : (enCl c).length ≤ 50000 := by
  unfold enCl
  have a1 := enTx_len _ h.name
  have a2 := enTx_len _ h.super
  have a3 := enL_len enCs c.pool 61 (fun x hx => enCs_len x (h.pool x hx))
  have a4 := enL_len enFd c.fields 62 (fun x hx => enFd_len x (h.fields x hx))
  have a5 := enL_len enMt c.methods 3400 (fun x hx => enMt_len x (h.methods x hx))
  have c1 : c.pool.length * 61 ≤ 128 * 61 := Nat.mul_le_mul_right _ h.pl
  have c2 : c.fields.length * 62 ≤ 8 * 62 := Nat.mul_le_mul_right _ h.fl
  have c3 : c.methods.length * 3400 ≤ 12 * 3400 := Nat.mul_le_mul_right _ h.ml
  simp only [List.length_append, List.length_cons, List.length_nil]
  omega
end Go.Proofs.YthncdbobjeeeaaaGreatDoor

/- Lists on the wire: how many, then each. -/
namespace Go.Proofs.YthncdbobjeeeaaaGreatDoor
open Go.ChangeShapes Go.WideShapes Go.ChangeAt Go.RowKit

/-- A writer at p, newer than w0, that holds u: the bytes l. -/
structure WT (w0 w : World) (p : Nat) (u : Value) (l : List Nat) : Prop where
  wt : Wt w p u l
  hp : w0.heap.size ≤ p
  hu : ∀ k, u.ownBlock = some k → w0.heap.size ≤ k
  fr : Fr no w0 w

theorem WT.step {w0 w w' : World} {p : Nat} {u u' : Value} {l l' : List Nat} (h : WT w0 w p u l) (ht : Wt w' p u' l') (hs : Sp (fun k => k = p) u w u' w') : WT w0 w' p u' l' := by
  refine ⟨ht, h.hp, fun k hk => ?_, h.fr.new hs.1 (fun i hi s => s.elim (fun e => by have := h.hp; omega) (fun e => by have := h.hu i e; omega))⟩
  rcases Nat.lt_or_ge k w.heap.size with h' | h'
  · exact h.hu k (hs.2 k h' hk)
  · exact Nat.le_trans h.fr.size h'

theorem WT.kept {w0 w w' : World} {p : Nat} {u : Value} {l : List Nat} (h : WT w0 w p u l) (hf : Fr no w w') : WT w0 w' p u l :=
  ⟨h.wt.kept hf (fun f => f) (fun _ _ f => f), h.hp, h.hu, h.fr.new hf (fun _ _ f => f)⟩

theorem WT.wb {w0 w : World} {p : Nat} {u : Value} {l : List Nat} (h : WT w0 w p u l) : WB w0 w p l := ⟨u, h.wt, h.hp, h.hu, h.fr⟩

theorem WT.lt {w0 w : World} {p : Nat} {u : Value} {l : List Nat} (h : WT w0 w p u l) : p < w.heap.size := lt_of_heap h.wt.1

/-- A block that was made behind the writer stays, whatever is written. -/
theorem Sp.box {w0 w w' : World} {p q : Nat} {u u' : Value} {l : List Nat} {o o2 : Obj} (h : WT w0 w p u l) (hs : Sp (fun k => k = p) u (w.alloc o) u' w') (hq : (w.alloc o).heap[w.heap.size]? = some o2) (e : q = w.heap.size) : w'.heap[q]? = some o2 := by
  subst e
  refine hs.1.heap hq (fun s => s.elim (fun e => ?_) (fun e => ?_))
  · have := h.lt; omega
  · exact absurd (h.wt.2.lt e) (Nat.lt_irrefl _)

theorem wt_byte (w0 w : World) (p : Nat) (u : Value) (l : List Nat) (h : WT w0 w p u l) (hb : l.length + 1 ≤ 1099511627776) (c : Nat) :
    Calls Tryz.prog 41 #[.pointer (some ⟨p, 0, none⟩), .int .u8 (c : Int)] w fun e w' => e = .returned (.tuple #[]) ∧ ∃ u', WT w0 w' p u' (l ++ [c]) ∧ Sp (fun k => k = p) u w u' w' := by
  refine (byte_any w p u l h.wt hb c).mono ?_
  rintro e w' ⟨rfl, u', ht, hs⟩
  exact ⟨rfl, u', h.step ht hs, hs⟩

theorem wt_uint (w0 w : World) (p : Nat) (u : Value) (l : List Nat) (h : WT w0 w p u l) (hb : l.length + 10 ≤ 1099511627776) (n : Nat) (hn : n < 2 ^ 64) :
    Calls Tryz.prog 93 #[.pointer (some ⟨p, 0, none⟩), .int .u64 (n : Int)] w fun e w' => e = .returned (.tuple #[]) ∧ ∃ u', WT w0 w' p u' (l ++ enc n) ∧ Sp (fun k => k = p) u w u' w' := by
  refine (uint_any w p u l h.wt hb n hn).mono ?_
  rintro e w' ⟨rfl, u', ht, hs⟩
  exact ⟨rfl, u', h.step ht hs, hs⟩

theorem wt_int (w0 w : World) (p : Nat) (u : Value) (l : List Nat) (h : WT w0 w p u l) (hb : l.length + 10 ≤ 1099511627776) (n : Int) (h1 : -9223372036854775808 ≤ n) (h2 : n ≤ 9223372036854775807) :
    Calls Tryz.prog 95 #[.pointer (some ⟨p, 0, none⟩), .int .i64 n] w fun e w' => e = .returned (.tuple #[]) ∧ ∃ u', WT w0 w' p u' (l ++ enc (fo n)) ∧ Sp (fun k => k = p) u w u' w' := by
  refine (int_any w p u l h.wt hb n h1 h2).mono ?_
  rintro e w' ⟨rfl, u', ht, hs⟩
  exact ⟨rfl, u', h.step ht hs, hs⟩

theorem wt_text (w0 w : World) (p : Nat) (u : Value) (l : List Nat) (h : WT w0 w p u l) (s : ByteArray) (hb : l.length + 10 + s.size ≤ 1099511627776) :
    Calls Tryz.prog 42 #[.pointer (some ⟨p, 0, none⟩), .string s] w fun e w' => e = .returned (.tuple #[]) ∧ ∃ u', WT w0 w' p u' (l ++ enTx s) ∧ Sp (fun k => k = p) u w u' w' := by
  refine (text_any w p u l h.wt s hb).mono ?_
  rintro e w' ⟨rfl, u', ht, hs⟩
  exact ⟨rfl, u', h.step ht hs, hs⟩

theorem wt_cplx (w0 w : World) (p : Nat) (u : Value) (l : List Nat) (h : WT w0 w p u l) (hb : l.length + 16 ≤ 1099511627776) (a b : Nat) (ha : a < 2 ^ 64) (hb' : b < 2 ^ 64) :
    Calls Tryz.prog 96 #[.pointer (some ⟨p, 0, none⟩), .complex .f64 a b] w fun e w' => e = .returned (.tuple #[]) ∧ ∃ u', WT w0 w' p u' (l ++ (le a 8 ++ le b 8)) ∧ Sp (fun k => k = p) u w u' w' := by
  refine (cplx_any w p u l h.wt hb a b ha hb').mono ?_
  rintro e w' ⟨rfl, u', ht, hs⟩
  exact ⟨rfl, u', h.step ht hs, hs⟩

theorem writeCount_any (w0 w : World) (p : Nat) (u : Value) (l : List Nat) (h : WT w0 w p u l) (hb : l.length + 10 ≤ 1099511627776) (n : Nat) (hn : n < 2 ^ 63) :
    Calls Tryz.prog 94 #[.pointer (some ⟨p, 0, none⟩), .int .i64 (n : Int)] w fun e w' => e = .returned (.tuple #[]) ∧ ∃ u', WT w0 w' p u' (l ++ enc n) ∧ Sp (fun k => k = p) u w u' w' := by
  have U := wt_uint w0 w p u l h hb n (by omega)
  have hw : IntKind.u64.wrap (n : Int) = (n : Int) := by simp [IntKind.wrap, IntKind.signed, IntKind.bits]; omega
  clear h
  go_enter Tryz.func94, Tryz.ntmps94
  go_wp2_with fail
  refine U.mono ?_
  rintro e w1 ⟨rfl, h1⟩
  go_wp2_with fail
  go_end0
  exact ⟨rfl, h1⟩

def WriteCsAt (w0 wb : World) (ub : Value) (p : Nat) (v : Value) (l0 : List Nat) (en : Cs → List Nat) (l : List Cs) (a : Act) (w : World) : Prop :=
  ∃ (k : Nat) (u3 u4 u5 u6 u7 u8 u9 u10 u11 u12 u13 u14 u15 u16 u17 u18 u19 u20 u21 u22 u23 : Value), a = { tmps := #[.pointer (some ⟨p, 0, none⟩), v, .func (.func 44) #[] #[], u3, u4, u5, u6, u7, u8, u9, u10, u11, u12, u13, u14, u15, u16, u17, u18, u19, u20, u21, u22, u23], defers := [] } ∧ u6 = .int .i64 (k : Int) ∧ k ≤ l.length ∧ ∃ u, WT w0 w p u (l0 ++ (enc l.length ++ (l.take k).flatMap en)) ∧ Sp (fun k => k = p) ub wb u w

set_option maxRecDepth 100000 in
set_option maxHeartbeats 2000000 in
theorem writeCs_list (w0 w : World) (p : Nat) (ub : Value) (l0 : List Nat) (h : WT w0 w p ub l0) (v : Value) (l : List Cs) (hs : SlG elCs w0 v l) (N : Nat) (hN : N ≤ 100000000) (hll : l.length ≤ 1000) (hb : l0.length + 10 + l.length * 5000 ≤ N) (en : Cs → List Nat) (hen : ∀ x ∈ l, (en x).length ≤ 5000)
    (W : ∀ w1 u1 l1 x, x ∈ l → WT w0 w1 p u1 l1 → l1.length ≤ N → Calls Tryz.prog 44 #[.pointer (some ⟨p, 0, none⟩), .agg #[.int .i64 x.k, .int .i64 x.n, .complex .f64 x.re x.im, .string x.c, .string x.m]] w1 fun e w' => e = .returned (.tuple #[]) ∧ ∃ u', WT w0 w' p u' (l1 ++ en x) ∧ Sp (fun k => k = p) u1 w1 u' w') :
    Calls Tryz.prog 43 #[.pointer (some ⟨p, 0, none⟩), v, .func (.func 44) #[] #[]] w fun e w' => e = .returned (.tuple #[]) ∧ ∃ u', WT w0 w' p u' (l0 ++ enL en l) ∧ Sp (fun k => k = p) ub w u' w' := by
  obtain ⟨ad, cp, rfl, hcap, hmx, hit⟩ := hs
  unfold maxLen at hmx
  have HI : Hid (∀ (i : Nat) (x : Cs), l[i]? = some x → ∃ b off, ad = some ⟨b, off, none⟩ ∧ ∀ (j : Nat) (u : Value), (elCs.f x)[j]? = some u → w0.cell? ⟨b, off + i * 5 + j, none⟩ = some u) := hit
  have HW : Hid (∀ w1 u1 l1 x, x ∈ l → WT w0 w1 p u1 l1 → l1.length ≤ N → Calls Tryz.prog 44 #[.pointer (some ⟨p, 0, none⟩), .agg #[.int .i64 x.k, .int .i64 x.n, .complex .f64 x.re x.im, .string x.c, .string x.m]] w1 fun e w' => e = .returned (.tuple #[]) ∧ ∃ u', WT w0 w' p u' (l1 ++ en x) ∧ Sp (fun k => k = p) u1 w1 u' w') := W
  clear hit W
  have C := writeCount_any w0 w p ub l0 h (by omega) l.length (by omega)
  go_enter Tryz.func43, Tryz.ntmps43
  go_wp2_with fail
  refine wp_label_one 0 (WriteCsAt w0 w ub p (.slice ad l.length cp) l0 en l) (fun a' _ => l.length - (intOf (a'.tmps.getD 6 undef)).toNat) rfl ?_ ?_
  · intro K h0 hr hn'
    go_wp2_with fail
    refine C.mono ?_
    rintro e w1 ⟨rfl, u1, h1, s1⟩
    go_wp2_with fail
    go_step3
    rename_i hk
    exact hk _ _ (h0 _ _ ⟨0, _, _, _, _, _, _, _, _, _, _, _, _, _, _, _, _, _, _, _, _, _, rfl, rfl, by omega, u1, by simpa using h1, s1⟩)
  · rintro a' w' ⟨k, u3, u4, u5, u6, u7, u8, u9, u10, u11, u12, u13, u14, u15, u16, u17, u18, u19, u20, u21, u22, u23, rfl, rfl, hk, u1, hw, hs1⟩ K hj hr hn'
    by_cases hlt : k < l.length
    · have hlt' : (k : Int) < (l.length : Int) := by omega
      obtain ⟨x, hx⟩ : ∃ x, l[k]? = some x := ⟨_, List.getElem?_eq_getElem hlt⟩
      obtain ⟨b, off, rfl, hc⟩ := HI.out k x hx
      have c0 : w'.cell? ⟨b, off + k * 5, none⟩ = some (.int .i64 x.k) := hw.fr.cell (hc 0 _ rfl) (fun f => f)
      have c1 : w'.cell? ⟨b, off + k * 5 + 1, none⟩ = some (.int .i64 x.n) := hw.fr.cell (hc 1 _ rfl) (fun f => f)
      have c2 : w'.cell? ⟨b, off + k * 5 + 2, none⟩ = some (.complex .f64 x.re x.im) := hw.fr.cell (hc 2 _ rfl) (fun f => f)
      have c3 : w'.cell? ⟨b, off + k * 5 + 3, none⟩ = some (.string x.c) := hw.fr.cell (hc 3 _ rfl) (fun f => f)
      have c4 : w'.cell? ⟨b, off + k * 5 + 4, none⟩ = some (.string x.m) := hw.fr.cell (hc 4 _ rfl) (fun f => f)
      have hlen : (l0 ++ (enc l.length ++ (l.take k).flatMap en)).length ≤ N := by
        have a1 := enc_length l.length
        have a2 := flat_len en (l.take k) 5000 (fun y hy => hen y (List.mem_of_mem_take hy))
        have a3 : (l.take k).length * 5000 ≤ l.length * 5000 := Nat.mul_le_mul_right _ (by rw [List.length_take]; omega)
        simp only [List.length_append]
        omega
      have A := HW.out w' u1 _ x (List.mem_of_getElem? hx) hw hlen
      have HX : Hid (l[k]? = some x) := hx
      clear hx hc hw hlen
      go_wp2_with fail
      refine A.mono ?_
      rintro e w2 ⟨rfl, u2, h2, s2⟩
      go_wp2_with fail
      go_step3
      refine hj _ _ ⟨k + 1, _, _, _, _, _, _, _, _, _, _, _, _, _, _, _, _, _, _, _, _, _, rfl, by go_num, by omega, u2, ?_, hs1.trans s2⟩ ?_
      · rw [take_next l k x HX.out, List.flatMap_append]
        simpa using h2
      · simp [intOf]
        omega
    · have hkl : k = l.length := by omega
      subst hkl
      rw [List.take_length] at hw
      go_wp2_with fail
      refine hn' _ _ ?_
      go_end0
      exact ⟨rfl, u1, hw, hs1⟩

def WriteFdAt (w0 wb : World) (ub : Value) (p : Nat) (v : Value) (l0 : List Nat) (en : Fd → List Nat) (l : List Fd) (a : Act) (w : World) : Prop :=
  ∃ (k : Nat) (u3 u4 u5 u6 u7 u8 u9 u10 u11 u12 u13 u14 u15 u16 u17 u18 u19 u20 u21 u22 u23 : Value), a = { tmps := #[.pointer (some ⟨p, 0, none⟩), v, .func (.func 46) #[] #[], u3, u4, u5, u6, u7, u8, u9, u10, u11, u12, u13, u14, u15, u16, u17, u18, u19, u20, u21, u22, u23], defers := [] } ∧ u6 = .int .i64 (k : Int) ∧ k ≤ l.length ∧ ∃ u, WT w0 w p u (l0 ++ (enc l.length ++ (l.take k).flatMap en)) ∧ Sp (fun k => k = p) ub wb u w

set_option maxRecDepth 100000 in
set_option maxHeartbeats 2000000 in
theorem writeFd_list (w0 w : World) (p : Nat) (ub : Value) (l0 : List Nat) (h : WT w0 w p ub l0) (v : Value) (l : List Fd) (hs : SlG elFd w0 v l) (N : Nat) (hN : N ≤ 100000000) (hll : l.length ≤ 1000) (hb : l0.length + 10 + l.length * 5000 ≤ N) (en : Fd → List Nat) (hen : ∀ x ∈ l, (en x).length ≤ 5000)
    (W : ∀ w1 u1 l1 x, x ∈ l → WT w0 w1 p u1 l1 → l1.length ≤ N → Calls Tryz.prog 46 #[.pointer (some ⟨p, 0, none⟩), .agg #[.string x.name, .int .i64 x.ty.k, .string x.ty.c, .bool x.vol]] w1 fun e w' => e = .returned (.tuple #[]) ∧ ∃ u', WT w0 w' p u' (l1 ++ en x) ∧ Sp (fun k => k = p) u1 w1 u' w') :
    Calls Tryz.prog 45 #[.pointer (some ⟨p, 0, none⟩), v, .func (.func 46) #[] #[]] w fun e w' => e = .returned (.tuple #[]) ∧ ∃ u', WT w0 w' p u' (l0 ++ enL en l) ∧ Sp (fun k => k = p) ub w u' w' := by
  obtain ⟨ad, cp, rfl, hcap, hmx, hit⟩ := hs
  unfold maxLen at hmx
  have HI : Hid (∀ (i : Nat) (x : Fd), l[i]? = some x → ∃ b off, ad = some ⟨b, off, none⟩ ∧ ∀ (j : Nat) (u : Value), (elFd.f x)[j]? = some u → w0.cell? ⟨b, off + i * 4 + j, none⟩ = some u) := hit
  have HW : Hid (∀ w1 u1 l1 x, x ∈ l → WT w0 w1 p u1 l1 → l1.length ≤ N → Calls Tryz.prog 46 #[.pointer (some ⟨p, 0, none⟩), .agg #[.string x.name, .int .i64 x.ty.k, .string x.ty.c, .bool x.vol]] w1 fun e w' => e = .returned (.tuple #[]) ∧ ∃ u', WT w0 w' p u' (l1 ++ en x) ∧ Sp (fun k => k = p) u1 w1 u' w') := W
  clear hit W
  have C := writeCount_any w0 w p ub l0 h (by omega) l.length (by omega)
  go_enter Tryz.func45, Tryz.ntmps45
  go_wp2_with fail
  refine wp_label_one 0 (WriteFdAt w0 w ub p (.slice ad l.length cp) l0 en l) (fun a' _ => l.length - (intOf (a'.tmps.getD 6 undef)).toNat) rfl ?_ ?_
  · intro K h0 hr hn'
    go_wp2_with fail
    refine C.mono ?_
    rintro e w1 ⟨rfl, u1, h1, s1⟩
    go_wp2_with fail
    go_step3
    rename_i hk
    exact hk _ _ (h0 _ _ ⟨0, _, _, _, _, _, _, _, _, _, _, _, _, _, _, _, _, _, _, _, _, _, rfl, rfl, by omega, u1, by simpa using h1, s1⟩)
  · rintro a' w' ⟨k, u3, u4, u5, u6, u7, u8, u9, u10, u11, u12, u13, u14, u15, u16, u17, u18, u19, u20, u21, u22, u23, rfl, rfl, hk, u1, hw, hs1⟩ K hj hr hn'
    by_cases hlt : k < l.length
    · have hlt' : (k : Int) < (l.length : Int) := by omega
      obtain ⟨x, hx⟩ : ∃ x, l[k]? = some x := ⟨_, List.getElem?_eq_getElem hlt⟩
      obtain ⟨b, off, rfl, hc⟩ := HI.out k x hx
      have c0 : w'.cell? ⟨b, off + k * 4, none⟩ = some (.string x.name) := hw.fr.cell (hc 0 _ rfl) (fun f => f)
      have c1 : w'.cell? ⟨b, off + k * 4 + 1, none⟩ = some (.int .i64 x.ty.k) := hw.fr.cell (hc 1 _ rfl) (fun f => f)
      have c2 : w'.cell? ⟨b, off + k * 4 + 2, none⟩ = some (.string x.ty.c) := hw.fr.cell (hc 2 _ rfl) (fun f => f)
      have c3 : w'.cell? ⟨b, off + k * 4 + 3, none⟩ = some (.bool x.vol) := hw.fr.cell (hc 3 _ rfl) (fun f => f)
      have hlen : (l0 ++ (enc l.length ++ (l.take k).flatMap en)).length ≤ N := by
        have a1 := enc_length l.length
        have a2 := flat_len en (l.take k) 5000 (fun y hy => hen y (List.mem_of_mem_take hy))
        have a3 : (l.take k).length * 5000 ≤ l.length * 5000 := Nat.mul_le_mul_right _ (by rw [List.length_take]; omega)
        simp only [List.length_append]
        omega
      have A := HW.out w' u1 _ x (List.mem_of_getElem? hx) hw hlen
      have HX : Hid (l[k]? = some x) := hx
      clear hx hc hw hlen
      go_wp2_with fail
      refine A.mono ?_
      rintro e w2 ⟨rfl, u2, h2, s2⟩
      go_wp2_with fail
      go_step3
      refine hj _ _ ⟨k + 1, _, _, _, _, _, _, _, _, _, _, _, _, _, _, _, _, _, _, _, _, _, rfl, by go_num, by omega, u2, ?_, hs1.trans s2⟩ ?_
      · rw [take_next l k x HX.out, List.flatMap_append]
        simpa using h2
      · simp [intOf]
        omega
    · have hkl : k = l.length := by omega
      subst hkl
      rw [List.take_length] at hw
      go_wp2_with fail
      refine hn' _ _ ?_
      go_end0
      exact ⟨rfl, u1, hw, hs1⟩

def WriteTyAt (w0 wb : World) (ub : Value) (p : Nat) (v : Value) (l0 : List Nat) (en : Ty → List Nat) (l : List Ty) (a : Act) (w : World) : Prop :=
  ∃ (k : Nat) (u3 u4 u5 u6 u7 u8 u9 u10 u11 u12 u13 u14 u15 u16 u17 u18 u19 u20 u21 u22 u23 : Value), a = { tmps := #[.pointer (some ⟨p, 0, none⟩), v, .func (.func 97) #[] #[], u3, u4, u5, u6, u7, u8, u9, u10, u11, u12, u13, u14, u15, u16, u17, u18, u19, u20, u21, u22, u23], defers := [] } ∧ u6 = .int .i64 (k : Int) ∧ k ≤ l.length ∧ ∃ u, WT w0 w p u (l0 ++ (enc l.length ++ (l.take k).flatMap en)) ∧ Sp (fun k => k = p) ub wb u w

set_option maxRecDepth 100000 in
set_option maxHeartbeats 2000000 in
theorem writeTy_list (w0 w : World) (p : Nat) (ub : Value) (l0 : List Nat) (h : WT w0 w p ub l0) (v : Value) (l : List Ty) (hs : SlG elTy w0 v l) (N : Nat) (hN : N ≤ 100000000) (hll : l.length ≤ 1000) (hb : l0.length + 10 + l.length * 5000 ≤ N) (en : Ty → List Nat) (hen : ∀ x ∈ l, (en x).length ≤ 5000)
    (W : ∀ w1 u1 l1 x, x ∈ l → WT w0 w1 p u1 l1 → l1.length ≤ N → Calls Tryz.prog 97 #[.pointer (some ⟨p, 0, none⟩), .agg #[.int .i64 x.k, .string x.c]] w1 fun e w' => e = .returned (.tuple #[]) ∧ ∃ u', WT w0 w' p u' (l1 ++ en x) ∧ Sp (fun k => k = p) u1 w1 u' w') :
    Calls Tryz.prog 98 #[.pointer (some ⟨p, 0, none⟩), v, .func (.func 97) #[] #[]] w fun e w' => e = .returned (.tuple #[]) ∧ ∃ u', WT w0 w' p u' (l0 ++ enL en l) ∧ Sp (fun k => k = p) ub w u' w' := by
  obtain ⟨ad, cp, rfl, hcap, hmx, hit⟩ := hs
  unfold maxLen at hmx
  have HI : Hid (∀ (i : Nat) (x : Ty), l[i]? = some x → ∃ b off, ad = some ⟨b, off, none⟩ ∧ ∀ (j : Nat) (u : Value), (elTy.f x)[j]? = some u → w0.cell? ⟨b, off + i * 2 + j, none⟩ = some u) := hit
  have HW : Hid (∀ w1 u1 l1 x, x ∈ l → WT w0 w1 p u1 l1 → l1.length ≤ N → Calls Tryz.prog 97 #[.pointer (some ⟨p, 0, none⟩), .agg #[.int .i64 x.k, .string x.c]] w1 fun e w' => e = .returned (.tuple #[]) ∧ ∃ u', WT w0 w' p u' (l1 ++ en x) ∧ Sp (fun k => k = p) u1 w1 u' w') := W
  clear hit W
  have C := writeCount_any w0 w p ub l0 h (by omega) l.length (by omega)
  go_enter Tryz.func98, Tryz.ntmps98
  go_wp2_with fail
  refine wp_label_one 0 (WriteTyAt w0 w ub p (.slice ad l.length cp) l0 en l) (fun a' _ => l.length - (intOf (a'.tmps.getD 6 undef)).toNat) rfl ?_ ?_
  · intro K h0 hr hn'
    go_wp2_with fail
    refine C.mono ?_
    rintro e w1 ⟨rfl, u1, h1, s1⟩
    go_wp2_with fail
    go_step3
    rename_i hk
    exact hk _ _ (h0 _ _ ⟨0, _, _, _, _, _, _, _, _, _, _, _, _, _, _, _, _, _, _, _, _, _, rfl, rfl, by omega, u1, by simpa using h1, s1⟩)
  · rintro a' w' ⟨k, u3, u4, u5, u6, u7, u8, u9, u10, u11, u12, u13, u14, u15, u16, u17, u18, u19, u20, u21, u22, u23, rfl, rfl, hk, u1, hw, hs1⟩ K hj hr hn'
    by_cases hlt : k < l.length
    · have hlt' : (k : Int) < (l.length : Int) := by omega
      obtain ⟨x, hx⟩ : ∃ x, l[k]? = some x := ⟨_, List.getElem?_eq_getElem hlt⟩
      obtain ⟨b, off, rfl, hc⟩ := HI.out k x hx
      have c0 : w'.cell? ⟨b, off + k * 2, none⟩ = some (.int .i64 x.k) := hw.fr.cell (hc 0 _ rfl) (fun f => f)
      have c1 : w'.cell? ⟨b, off + k * 2 + 1, none⟩ = some (.string x.c) := hw.fr.cell (hc 1 _ rfl) (fun f => f)
      have hlen : (l0 ++ (enc l.length ++ (l.take k).flatMap en)).length ≤ N := by
        have a1 := enc_length l.length
        have a2 := flat_len en (l.take k) 5000 (fun y hy => hen y (List.mem_of_mem_take hy))
        have a3 : (l.take k).length * 5000 ≤ l.length * 5000 := Nat.mul_le_mul_right _ (by rw [List.length_take]; omega)
        simp only [List.length_append]
        omega
      have A := HW.out w' u1 _ x (List.mem_of_getElem? hx) hw hlen
      have HX : Hid (l[k]? = some x) := hx
      clear hx hc hw hlen
      go_wp2_with fail
      refine A.mono ?_
      rintro e w2 ⟨rfl, u2, h2, s2⟩
      go_wp2_with fail
      go_step3
      refine hj _ _ ⟨k + 1, _, _, _, _, _, _, _, _, _, _, _, _, _, _, _, _, _, _, _, _, _, rfl, by go_num, by omega, u2, ?_, hs1.trans s2⟩ ?_
      · rw [take_next l k x HX.out, List.flatMap_append]
        simpa using h2
      · simp [intOf]
        omega
    · have hkl : k = l.length := by omega
      subst hkl
      rw [List.take_length] at hw
      go_wp2_with fail
      refine hn' _ _ ?_
      go_end0
      exact ⟨rfl, u1, hw, hs1⟩

def WriteHdAt (w0 wb : World) (ub : Value) (p : Nat) (v : Value) (l0 : List Nat) (en : Hd → List Nat) (l : List Hd) (a : Act) (w : World) : Prop :=
  ∃ (k : Nat) (u3 u4 u5 u6 u7 u8 u9 u10 u11 u12 u13 u14 u15 u16 u17 u18 u19 u20 u21 u22 u23 : Value), a = { tmps := #[.pointer (some ⟨p, 0, none⟩), v, .func (.func 101) #[] #[], u3, u4, u5, u6, u7, u8, u9, u10, u11, u12, u13, u14, u15, u16, u17, u18, u19, u20, u21, u22, u23], defers := [] } ∧ u6 = .int .i64 (k : Int) ∧ k ≤ l.length ∧ ∃ u, WT w0 w p u (l0 ++ (enc l.length ++ (l.take k).flatMap en)) ∧ Sp (fun k => k = p) ub wb u w

set_option maxRecDepth 100000 in
set_option maxHeartbeats 2000000 in
theorem writeHd_list (w0 w : World) (p : Nat) (ub : Value) (l0 : List Nat) (h : WT w0 w p ub l0) (v : Value) (l : List Hd) (hs : SlG elHd w0 v l) (N : Nat) (hN : N ≤ 100000000) (hll : l.length ≤ 1000) (hb : l0.length + 10 + l.length * 5000 ≤ N) (en : Hd → List Nat) (hen : ∀ x ∈ l, (en x).length ≤ 5000)
    (W : ∀ w1 u1 l1 x, x ∈ l → WT w0 w1 p u1 l1 → l1.length ≤ N → Calls Tryz.prog 101 #[.pointer (some ⟨p, 0, none⟩), .agg #[.int .i64 x.fr, .int .i64 x.to, .int .i64 x.tg, .int .i64 x.cl, .int .i64 x.dp]] w1 fun e w' => e = .returned (.tuple #[]) ∧ ∃ u', WT w0 w' p u' (l1 ++ en x) ∧ Sp (fun k => k = p) u1 w1 u' w') :
    Calls Tryz.prog 100 #[.pointer (some ⟨p, 0, none⟩), v, .func (.func 101) #[] #[]] w fun e w' => e = .returned (.tuple #[]) ∧ ∃ u', WT w0 w' p u' (l0 ++ enL en l) ∧ Sp (fun k => k = p) ub w u' w' := by
  obtain ⟨ad, cp, rfl, hcap, hmx, hit⟩ := hs
  unfold maxLen at hmx
  have HI : Hid (∀ (i : Nat) (x : Hd), l[i]? = some x → ∃ b off, ad = some ⟨b, off, none⟩ ∧ ∀ (j : Nat) (u : Value), (elHd.f x)[j]? = some u → w0.cell? ⟨b, off + i * 5 + j, none⟩ = some u) := hit
  have HW : Hid (∀ w1 u1 l1 x, x ∈ l → WT w0 w1 p u1 l1 → l1.length ≤ N → Calls Tryz.prog 101 #[.pointer (some ⟨p, 0, none⟩), .agg #[.int .i64 x.fr, .int .i64 x.to, .int .i64 x.tg, .int .i64 x.cl, .int .i64 x.dp]] w1 fun e w' => e = .returned (.tuple #[]) ∧ ∃ u', WT w0 w' p u' (l1 ++ en x) ∧ Sp (fun k => k = p) u1 w1 u' w') := W
  clear hit W
  have C := writeCount_any w0 w p ub l0 h (by omega) l.length (by omega)
  go_enter Tryz.func100, Tryz.ntmps100
  go_wp2_with fail
  refine wp_label_one 0 (WriteHdAt w0 w ub p (.slice ad l.length cp) l0 en l) (fun a' _ => l.length - (intOf (a'.tmps.getD 6 undef)).toNat) rfl ?_ ?_
  · intro K h0 hr hn'
    go_wp2_with fail
    refine C.mono ?_
    rintro e w1 ⟨rfl, u1, h1, s1⟩
    go_wp2_with fail
    go_step3
    rename_i hk
    exact hk _ _ (h0 _ _ ⟨0, _, _, _, _, _, _, _, _, _, _, _, _, _, _, _, _, _, _, _, _, _, rfl, rfl, by omega, u1, by simpa using h1, s1⟩)
  · rintro a' w' ⟨k, u3, u4, u5, u6, u7, u8, u9, u10, u11, u12, u13, u14, u15, u16, u17, u18, u19, u20, u21, u22, u23, rfl, rfl, hk, u1, hw, hs1⟩ K hj hr hn'
    by_cases hlt : k < l.length
    · have hlt' : (k : Int) < (l.length : Int) := by omega
      obtain ⟨x, hx⟩ : ∃ x, l[k]? = some x := ⟨_, List.getElem?_eq_getElem hlt⟩
      obtain ⟨b, off, rfl, hc⟩ := HI.out k x hx
      have c0 : w'.cell? ⟨b, off + k * 5, none⟩ = some (.int .i64 x.fr) := hw.fr.cell (hc 0 _ rfl) (fun f => f)
      have c1 : w'.cell? ⟨b, off + k * 5 + 1, none⟩ = some (.int .i64 x.to) := hw.fr.cell (hc 1 _ rfl) (fun f => f)
      have c2 : w'.cell? ⟨b, off + k * 5 + 2, none⟩ = some (.int .i64 x.tg) := hw.fr.cell (hc 2 _ rfl) (fun f => f)
      have c3 : w'.cell? ⟨b, off + k * 5 + 3, none⟩ = some (.int .i64 x.cl) := hw.fr.cell (hc 3 _ rfl) (fun f => f)
      have c4 : w'.cell? ⟨b, off + k * 5 + 4, none⟩ = some (.int .i64 x.dp) := hw.fr.cell (hc 4 _ rfl) (fun f => f)
      have hlen : (l0 ++ (enc l.length ++ (l.take k).flatMap en)).length ≤ N := by
        have a1 := enc_length l.length
        have a2 := flat_len en (l.take k) 5000 (fun y hy => hen y (List.mem_of_mem_take hy))
        have a3 : (l.take k).length * 5000 ≤ l.length * 5000 := Nat.mul_le_mul_right _ (by rw [List.length_take]; omega)
        simp only [List.length_append]
        omega
      have A := HW.out w' u1 _ x (List.mem_of_getElem? hx) hw hlen
      have HX : Hid (l[k]? = some x) := hx
      clear hx hc hw hlen
      go_wp2_with fail
      refine A.mono ?_
      rintro e w2 ⟨rfl, u2, h2, s2⟩
      go_wp2_with fail
      go_step3
      refine hj _ _ ⟨k + 1, _, _, _, _, _, _, _, _, _, _, _, _, _, _, _, _, _, _, _, _, _, rfl, by go_num, by omega, u2, ?_, hs1.trans s2⟩ ?_
      · rw [take_next l k x HX.out, List.flatMap_append]
        simpa using h2
      · simp [intOf]
        omega
    · have hkl : k = l.length := by omega
      subst hkl
      rw [List.take_length] at hw
      go_wp2_with fail
      refine hn' _ _ ?_
      go_end0
      exact ⟨rfl, u1, hw, hs1⟩

def WriteMsAt (w0 wb : World) (ub : Value) (p : Nat) (v : Value) (l0 : List Nat) (bs : List (List Nat)) (l : List Ms) (a : Act) (w : World) : Prop :=
  ∃ (k : Nat) (u3 u4 u5 u6 u7 u8 u9 u10 u11 u12 u13 u14 u15 u16 u17 u18 u19 u20 u21 u22 u23 : Value), a = { tmps := #[.pointer (some ⟨p, 0, none⟩), v, .func (.func 48) #[] #[], u3, u4, u5, u6, u7, u8, u9, u10, u11, u12, u13, u14, u15, u16, u17, u18, u19, u20, u21, u22, u23], defers := [] } ∧ u6 = .int .i64 (k : Int) ∧ k ≤ l.length ∧ ∃ u, WT w0 w p u (l0 ++ (enc l.length ++ (bs.take k).flatten)) ∧ Sp (fun k => k = p) ub wb u w

set_option maxRecDepth 100000 in
set_option maxHeartbeats 2000000 in
theorem writeMs_list (w0 w : World) (p : Nat) (ub : Value) (l0 : List Nat) (h : WT w0 w p ub l0) (v : Value) (l : List Ms) (hs : SlG elMs w0 v l) (N : Nat) (hN : N ≤ 100000000) (hll : l.length ≤ 1000) (hb : l0.length + 10 + l.length * 5000 ≤ N) (bs : List (List Nat)) (hbs : bs.length = l.length) (hen : ∀ b ∈ bs, b.length ≤ 5000)
    (W : ∀ (w1 : World) (u1 : Value) (l1 : List Nat) (k : Nat) (x : Ms) (y : List Nat), l[k]? = some x → bs[k]? = some y → WT w0 w1 p u1 l1 → l1.length ≤ N → Calls Tryz.prog 48 #[.pointer (some ⟨p, 0, none⟩), .agg #[.string x.name, .slice x.p.a x.p.n x.p.c, .int .i64 x.ret.k, .string x.ret.c, .int .i64 x.lo, .int .i64 x.st, .slice x.c.a x.c.n x.c.c, .slice x.h.a x.h.n x.h.c]] w1 fun e w' => e = .returned (.tuple #[]) ∧ ∃ u', WT w0 w' p u' (l1 ++ y) ∧ Sp (fun k => k = p) u1 w1 u' w') :
    Calls Tryz.prog 47 #[.pointer (some ⟨p, 0, none⟩), v, .func (.func 48) #[] #[]] w fun e w' => e = .returned (.tuple #[]) ∧ ∃ u', WT w0 w' p u' (l0 ++ (enc l.length ++ bs.flatten)) ∧ Sp (fun k => k = p) ub w u' w' := by
  obtain ⟨ad, cp, rfl, hcap, hmx, hit⟩ := hs
  unfold maxLen at hmx
  have HI : Hid (∀ (i : Nat) (x : Ms), l[i]? = some x → ∃ b off, ad = some ⟨b, off, none⟩ ∧ ∀ (j : Nat) (u : Value), (elMs.f x)[j]? = some u → w0.cell? ⟨b, off + i * 8 + j, none⟩ = some u) := hit
  have HW : Hid (∀ (w1 : World) (u1 : Value) (l1 : List Nat) (k : Nat) (x : Ms) (y : List Nat), l[k]? = some x → bs[k]? = some y → WT w0 w1 p u1 l1 → l1.length ≤ N → Calls Tryz.prog 48 #[.pointer (some ⟨p, 0, none⟩), .agg #[.string x.name, .slice x.p.a x.p.n x.p.c, .int .i64 x.ret.k, .string x.ret.c, .int .i64 x.lo, .int .i64 x.st, .slice x.c.a x.c.n x.c.c, .slice x.h.a x.h.n x.h.c]] w1 fun e w' => e = .returned (.tuple #[]) ∧ ∃ u', WT w0 w' p u' (l1 ++ y) ∧ Sp (fun k => k = p) u1 w1 u' w') := W
  clear hit W
  have C := writeCount_any w0 w p ub l0 h (by omega) l.length (by omega)
  go_enter Tryz.func47, Tryz.ntmps47
  go_wp2_with fail
  refine wp_label_one 0 (WriteMsAt w0 w ub p (.slice ad l.length cp) l0 bs l) (fun a' _ => l.length - (intOf (a'.tmps.getD 6 undef)).toNat) rfl ?_ ?_
  · intro K h0 hr hn'
    go_wp2_with fail
    refine C.mono ?_
    rintro e w1 ⟨rfl, u1, h1, s1⟩
    go_wp2_with fail
    go_step3
    rename_i hk
    exact hk _ _ (h0 _ _ ⟨0, _, _, _, _, _, _, _, _, _, _, _, _, _, _, _, _, _, _, _, _, _, rfl, rfl, by omega, u1, by simpa using h1, s1⟩)
  · rintro a' w' ⟨k, u3, u4, u5, u6, u7, u8, u9, u10, u11, u12, u13, u14, u15, u16, u17, u18, u19, u20, u21, u22, u23, rfl, rfl, hk, u1, hw, hs1⟩ K hj hr hn'
    by_cases hlt : k < l.length
    · have hlt' : (k : Int) < (l.length : Int) := by omega
      obtain ⟨x, hx⟩ : ∃ x, l[k]? = some x := ⟨_, List.getElem?_eq_getElem hlt⟩
      obtain ⟨b, off, rfl, hc⟩ := HI.out k x hx
      have c0 : w'.cell? ⟨b, off + k * 8, none⟩ = some (.string x.name) := hw.fr.cell (hc 0 _ rfl) (fun f => f)
      have c1 : w'.cell? ⟨b, off + k * 8 + 1, none⟩ = some (.slice x.p.a x.p.n x.p.c) := hw.fr.cell (hc 1 _ rfl) (fun f => f)
      have c2 : w'.cell? ⟨b, off + k * 8 + 2, none⟩ = some (.int .i64 x.ret.k) := hw.fr.cell (hc 2 _ rfl) (fun f => f)
      have c3 : w'.cell? ⟨b, off + k * 8 + 3, none⟩ = some (.string x.ret.c) := hw.fr.cell (hc 3 _ rfl) (fun f => f)
      have c4 : w'.cell? ⟨b, off + k * 8 + 4, none⟩ = some (.int .i64 x.lo) := hw.fr.cell (hc 4 _ rfl) (fun f => f)
      have c5 : w'.cell? ⟨b, off + k * 8 + 5, none⟩ = some (.int .i64 x.st) := hw.fr.cell (hc 5 _ rfl) (fun f => f)
      have c6 : w'.cell? ⟨b, off + k * 8 + 6, none⟩ = some (.slice x.c.a x.c.n x.c.c) := hw.fr.cell (hc 6 _ rfl) (fun f => f)
      have c7 : w'.cell? ⟨b, off + k * 8 + 7, none⟩ = some (.slice x.h.a x.h.n x.h.c) := hw.fr.cell (hc 7 _ rfl) (fun f => f)
      have hlen : (l0 ++ (enc l.length ++ (bs.take k).flatten)).length ≤ N := by
        have a1 := enc_length l.length
        have a2 := flat_len id (bs.take k) 5000 (fun y hy => hen y (List.mem_of_mem_take hy))
        rw [List.flatMap_id] at a2
        have a3 : (bs.take k).length * 5000 ≤ l.length * 5000 := Nat.mul_le_mul_right _ (by rw [List.length_take]; omega)
        simp only [List.length_append]
        omega
      obtain ⟨y, hy⟩ : ∃ y, bs[k]? = some y := ⟨_, List.getElem?_eq_getElem (by omega)⟩
      have A := HW.out w' u1 _ k x y hx hy hw hlen
      have HY : Hid (bs[k]? = some y) := hy
      clear hy
      have HX : Hid (l[k]? = some x) := hx
      clear hx hc hw hlen
      go_wp2_with fail
      refine A.mono ?_
      rintro e w2 ⟨rfl, u2, h2, s2⟩
      go_wp2_with fail
      go_step3
      refine hj _ _ ⟨k + 1, _, _, _, _, _, _, _, _, _, _, _, _, _, _, _, _, _, _, _, _, _, rfl, by go_num, by omega, u2, ?_, hs1.trans s2⟩ ?_
      · rw [take_next bs k y HY.out, List.flatten_append]
        simpa using h2
      · simp [intOf]
        omega
    · have hkl : k = l.length := by omega
      subst hkl
      rw [← hbs, List.take_length, hbs] at hw
      go_wp2_with fail
      refine hn' _ _ ?_
      go_end0
      exact ⟨rfl, u1, hw, hs1⟩
end Go.Proofs.YthncdbobjeeeaaaGreatDoor

/- A type, a constant, a field, a handler on the wire. -/
namespace Go.Proofs.YthncdbobjeeeaaaGreatDoor
open Go.ChangeShapes Go.WideShapes Go.ChangeAt Go.RowKit

theorem u8_small (n : Nat) (h : n < 256) : IntKind.u8.wrap (n : Int) = (n : Int) := by simp [IntKind.wrap, IntKind.signed, IntKind.bits]; omega

set_option maxRecDepth 100000 in
theorem writeType_any (w0 w : World) (p : Nat) (u : Value) (l : List Nat) (h : WT w0 w p u l) (hb : l.length ≤ 100000000) (t : Ty) (ht : VTy t) :
    Calls Tryz.prog 97 #[.pointer (some ⟨p, 0, none⟩), .agg #[.int .i64 t.k, .string t.c]] w fun e w' => e = .returned (.tuple #[]) ∧ ∃ u', WT w0 w' p u' (l ++ enTy t) ∧ Sp (fun k => k = p) u w u' w' := by
  obtain ⟨k, c⟩ := t
  obtain ⟨h1, h2, h3, h4⟩ := ht
  simp only [] at h1 h2 h3 h4
  obtain ⟨n, rfl⟩ : ∃ n : Nat, k = (n : Int) := ⟨k.toNat, by omega⟩
  have hw8 := u8_small n (by omega)
  have hk := h.kept ((Fr.refl no w).alloc #[.int .i64 (n : Int), .string c] 46)
  have hbx := heap_alloc_new w (.cells #[.int .i64 (n : Int), .string c] 46)
  have B := wt_byte w0 _ p u l hk (by omega) n
  have HBX : Hid (∀ w1 u1, Sp (fun k => k = p) u (w.alloc (.cells #[.int .i64 (n : Int), .string c] 46)) u1 w1 → w1.cell? ⟨w.heap.size, 0, none⟩ = some (.int .i64 (n : Int)) ∧ w1.cell? ⟨w.heap.size, 1, none⟩ = some (.string c)) :=
    fun w1 u1 s1 => box2 (Sp.box h s1 hbx rfl)
  clear hk hbx h
  by_cases h44 : n = 4
  · have HE : Hid (enTy ⟨(n : Int), c⟩ = [n] ++ enTx c) := by show _ = _; unfold enTy; simp only []; rw [if_pos (by omega)]; simp
    have hq : ((n : Int) == 4) = true := by simp; omega
    clear h44 h4
    go_enter Tryz.func97, Tryz.ntmps97
    go_wp2_with fail
    refine B.mono ?_
    rintro e w1 ⟨rfl, u1, g1, s1⟩
    obtain ⟨c0, c1⟩ := HBX.out w1 u1 s1
    have X := wt_text w0 w1 p u1 _ g1 c (by simp; omega)
    go_wp2_with fail
    refine X.mono ?_
    rintro e w2 ⟨rfl, u2, g2, s2⟩
    go_wp2_with fail
    go_end0
    rw [HE.out, ← List.append_assoc]
    exact ⟨rfl, u2, g2, (s1.trans s2).alloc⟩
  · have HE : Hid (enTy ⟨(n : Int), c⟩ = [n]) := by show _ = _; unfold enTy; simp only []; rw [if_neg (by omega)]; simp
    have hq : ((n : Int) == 4) = false := by simp; omega
    clear h44 h4
    go_enter Tryz.func97, Tryz.ntmps97
    go_wp2_with fail
    refine B.mono ?_
    rintro e w1 ⟨rfl, u1, g1, s1⟩
    obtain ⟨c0, c1⟩ := HBX.out w1 u1 s1
    go_wp2_with fail
    go_end0
    rw [HE.out]
    exact ⟨rfl, u1, g1, s1.alloc⟩

theorem box4 {w : World} {q : Nat} {a0 a1 a2 a3 : Value} {t : TypeId} (h : w.heap[q]? = some (.cells #[a0, a1, a2, a3] t (0, 0))) :
    w.cell? ⟨q, 0, none⟩ = some a0 ∧ w.cell? ⟨q, 1, none⟩ = some a1 ∧ w.cell? ⟨q, 2, none⟩ = some a2 ∧ w.cell? ⟨q, 3, none⟩ = some a3 := by
  refine ⟨?_, ?_, ?_, ?_⟩ <;> simp [World.cell?, h]

set_option maxRecDepth 100000 in
theorem writeField_any (w0 w : World) (p : Nat) (u : Value) (l : List Nat) (h : WT w0 w p u l) (hb : l.length ≤ 90000000) (x : Fd) (hx : VFd x) :
    Calls Tryz.prog 46 #[.pointer (some ⟨p, 0, none⟩), .agg #[.string x.name, .int .i64 x.ty.k, .string x.ty.c, .bool x.vol]] w fun e w' => e = .returned (.tuple #[]) ∧ ∃ u', WT w0 w' p u' (l ++ enFd x) ∧ Sp (fun k => k = p) u w u' w' := by
  have hn := hx.name
  have hl1 := enTx_len _ hn
  have hl2 := enTy_len _ hx.ty
  have hk := h.kept ((Fr.refl no w).alloc #[.string x.name, .int .i64 x.ty.k, .string x.ty.c, .bool x.vol] 48)
  have hbx := heap_alloc_new w (.cells #[.string x.name, .int .i64 x.ty.k, .string x.ty.c, .bool x.vol] 48)
  have B := wt_text w0 _ p u l hk x.name (by omega)
  have HBX : Hid (∀ w1 u1, Sp (fun k => k = p) u (w.alloc (.cells #[.string x.name, .int .i64 x.ty.k, .string x.ty.c, .bool x.vol] 48)) u1 w1 → _) :=
    fun w1 u1 s1 => box4 (Sp.box h s1 hbx rfl)
  have HT : Hid (VTy x.ty) := hx.ty
  have HE : Hid (enFd x = enTx x.name ++ (enTy x.ty ++ [if x.vol = true then 1 else 0])) := rfl
  clear hk hbx h hx
  cases hv : x.vol with
  | true =>
    rw [hv, if_pos rfl] at HE
    rw [hv] at B HBX
    clear hv
    go_enter Tryz.func46, Tryz.ntmps46
    go_wp2_with fail
    refine B.mono ?_
    rintro e w1 ⟨rfl, u1, g1, s1⟩
    obtain ⟨c0, c1, c2, c3⟩ := HBX.out w1 u1 s1
    have X := writeType_any w0 w1 p u1 _ g1 (by simp; omega) x.ty HT.out
    go_wp2_with fail
    refine X.mono ?_
    rintro e w2 ⟨rfl, u2, g2, s2⟩
    have s2' := s1.trans s2
    clear c0 c1 c2 c3 X s2 s1
    obtain ⟨c0, c1, c2, c3⟩ := HBX.out w2 u2 s2'
    have Y := wt_byte w0 w2 p u2 _ g2 (by simp; omega) 1
    go_wp2_with fail
    refine Y.mono ?_
    rintro e w3 ⟨rfl, u3, g3, s3⟩
    go_wp2_with fail
    go_end0
    rw [HE.out]
    exact ⟨rfl, u3, by simpa using g3, (s2'.trans s3).alloc⟩
  | false =>
    rw [hv, if_neg (by simp)] at HE
    rw [hv] at B HBX
    clear hv
    go_enter Tryz.func46, Tryz.ntmps46
    go_wp2_with fail
    refine B.mono ?_
    rintro e w1 ⟨rfl, u1, g1, s1⟩
    obtain ⟨c0, c1, c2, c3⟩ := HBX.out w1 u1 s1
    have X := writeType_any w0 w1 p u1 _ g1 (by simp; omega) x.ty HT.out
    go_wp2_with fail
    refine X.mono ?_
    rintro e w2 ⟨rfl, u2, g2, s2⟩
    have s2' := s1.trans s2
    clear c0 c1 c2 c3 X s2 s1
    obtain ⟨c0, c1, c2, c3⟩ := HBX.out w2 u2 s2'
    have Y := wt_byte w0 w2 p u2 _ g2 (by simp; omega) 0
    go_wp2_with fail
    refine Y.mono ?_
    rintro e w3 ⟨rfl, u3, g3, s3⟩
    go_wp2_with fail
    go_end0
    rw [HE.out]
    exact ⟨rfl, u3, by simpa using g3, (s2'.trans s3).alloc⟩

set_option maxRecDepth 100000 in
theorem writeHandler_any (w0 w : World) (p : Nat) (u : Value) (l : List Nat) (h : WT w0 w p u l) (hb : l.length ≤ 90000000) (x : Hd) (hx : VHd x) :
    Calls Tryz.prog 101 #[.pointer (some ⟨p, 0, none⟩), .agg #[.int .i64 x.fr, .int .i64 x.to, .int .i64 x.tg, .int .i64 x.cl, .int .i64 x.dp]] w fun e w' => e = .returned (.tuple #[]) ∧ ∃ u', WT w0 w' p u' (l ++ enHd x) ∧ Sp (fun k => k = p) u w u' w' := by
  obtain ⟨fr, to, tg, cl, dp⟩ := x
  obtain ⟨h1, h2, h3, h4, h5⟩ := hx
  simp only [] at h1 h2 h3 h4 h5
  obtain ⟨a, rfl⟩ : ∃ n : Nat, fr = (n : Int) := ⟨fr.toNat, by omega⟩
  obtain ⟨b, rfl⟩ : ∃ n : Nat, to = (n : Int) := ⟨to.toNat, by omega⟩
  obtain ⟨c, rfl⟩ : ∃ n : Nat, tg = (n : Int) := ⟨tg.toNat, by omega⟩
  obtain ⟨d, hd⟩ : ∃ n : Nat, cl + 1 = (n : Int) := ⟨(cl + 1).toNat, by omega⟩
  obtain ⟨f, rfl⟩ : ∃ n : Nat, dp = (n : Int) := ⟨dp.toNat, by omega⟩
  have hk := h.kept ((Fr.refl no w).alloc #[.int .i64 (a : Int), .int .i64 (b : Int), .int .i64 (c : Int), .int .i64 cl, .int .i64 (f : Int)] 59)
  have hbx := heap_alloc_new w (.cells #[.int .i64 (a : Int), .int .i64 (b : Int), .int .i64 (c : Int), .int .i64 cl, .int .i64 (f : Int)] 59)
  have B := writeCount_any w0 _ p u l hk (by omega) a (by omega)
  have HBX : Hid (∀ w1 u1, Sp (fun k => k = p) u (w.alloc (.cells #[.int .i64 (a : Int), .int .i64 (b : Int), .int .i64 (c : Int), .int .i64 cl, .int .i64 (f : Int)] 59)) u1 w1 → _) :=
    fun w1 u1 s1 => box5 (Sp.box h s1 hbx rfl)
  have HE : Hid (enHd ⟨(a : Int), (b : Int), (c : Int), cl, (f : Int)⟩ = enc a ++ (enc b ++ (enc c ++ (enc d ++ enc f)))) := by
    show _ = _
    unfold enHd
    simp only [hd]
    rfl
  have l1 := enc_length a
  have l2 := enc_length b
  have l3 := enc_length c
  have l4 := enc_length d
  have hd' : IntKind.i64.wrap (cl - -1) = (d : Int) := by simp [IntKind.wrap, IntKind.signed, IntKind.bits]; omega
  have hd2 : cl - -1 = (d : Int) := by omega
  have hd3 : cl + 1 = (d : Int) := hd
  clear hk hbx h hd
  go_enter Tryz.func101, Tryz.ntmps101
  go_wp2_with fail
  refine B.mono ?_
  rintro e w1 ⟨rfl, u1, g1, s1⟩
  obtain ⟨c0, c1, c2, c3, c4⟩ := HBX.out w1 u1 s1
  have X := writeCount_any w0 w1 p u1 _ g1 (by simp; omega) b (by omega)
  go_wp2_with fail
  refine X.mono ?_
  rintro e w2 ⟨rfl, u2, g2, s2⟩
  have s2' := s1.trans s2
  clear c0 c1 c2 c3 c4 X s2 s1 g1
  obtain ⟨c0, c1, c2, c3, c4⟩ := HBX.out w2 u2 s2'
  have X := writeCount_any w0 w2 p u2 _ g2 (by simp; omega) c (by omega)
  go_wp2_with fail
  refine X.mono ?_
  rintro e w3 ⟨rfl, u3, g3, s3⟩
  have s3' := s2'.trans s3
  clear c0 c1 c2 c3 c4 X s3 s2' g2
  obtain ⟨c0, c1, c2, c3, c4⟩ := HBX.out w3 u3 s3'
  have X := writeCount_any w0 w3 p u3 _ g3 (by simp; omega) d (by omega)
  go_wp2_with fail
  refine X.mono ?_
  rintro e w4 ⟨rfl, u4, g4, s4⟩
  have s4' := s3'.trans s4
  clear c0 c1 c2 c3 c4 X s4 s3' g3
  obtain ⟨c0, c1, c2, c3, c4⟩ := HBX.out w4 u4 s4'
  have X := writeCount_any w0 w4 p u4 _ g4 (by simp; omega) f (by omega)
  go_wp2_with fail
  refine X.mono ?_
  rintro e w5 ⟨rfl, u5, g5, s5⟩
  go_wp2_with fail
  go_end0
  rw [HE.out]
  exact ⟨rfl, u5, by simpa using g5, (s4'.trans s5).alloc⟩

/-- A constant's numbers are such as a machine has. -/
structure FitCs (x : Cs) : Prop where
  lo : -9223372036854775808 ≤ x.n
  hi : x.n ≤ 9223372036854775807
  re : x.re < 2 ^ 64
  im : x.im < 2 ^ 64

set_option maxRecDepth 100000 in
set_option maxHeartbeats 1000000 in
theorem writeConst_any (w0 w : World) (p : Nat) (u : Value) (l : List Nat) (h : WT w0 w p u l) (hb : l.length ≤ 90000000) (x : Cs) (hx : VCs x) (hf : FitCs x) :
    Calls Tryz.prog 44 #[.pointer (some ⟨p, 0, none⟩), .agg #[.int .i64 x.k, .int .i64 x.n, .complex .f64 x.re x.im, .string x.c, .string x.m]] w fun e w' => e = .returned (.tuple #[]) ∧ ∃ u', WT w0 w' p u' (l ++ enCs x) ∧ Sp (fun k => k = p) u w u' w' := by
  obtain ⟨k, x, re, im, c, m⟩ := x
  have h1 := hx.lo
  have h2 := hx.hi
  have h3 := hx.sc
  have h4 := hx.sm
  clear hx
  obtain ⟨f1, f2, f3, f4⟩ := hf
  simp only [] at h1 h2 h3 h4 f1 f2 f3 f4
  obtain ⟨n, rfl⟩ : ∃ n : Nat, k = (n : Int) := ⟨k.toNat, by omega⟩
  have hw8 := u8_small n (by omega)
  have hk := h.kept ((Fr.refl no w).alloc #[.int .i64 (n : Int), .int .i64 x, .complex .f64 re im, .string c, .string m] 39)
  have hbx := heap_alloc_new w (.cells #[.int .i64 (n : Int), .int .i64 x, .complex .f64 re im, .string c, .string m] 39)
  have B := wt_byte w0 _ p u l hk (by omega) n
  have HBX : Hid (∀ w1 u1, Sp (fun k => k = p) u (w.alloc (.cells #[.int .i64 (n : Int), .int .i64 x, .complex .f64 re im, .string c, .string m] 39)) u1 w1 → _) := fun w1 u1 s1 => box5 (Sp.box h s1 hbx rfl)
  have O := fun w1 => ownParts_any w1 (n : Int)
  have HE0 : Hid (enCs ⟨(n : Int), x, re, im, c, m⟩ = n :: (if (n : Int) = 1 then enc (fo x) else if (n : Int) = 2 then le re 8 ++ le im 8 else if (n : Int) = 3 then enTx c else if (n : Int) = 4 ∨ (n : Int) = 5 then enTx c ++ enTx m else [])) := by
    show _ = _
    unfold enCs
    simp
  clear hk hbx h
  by_cases hk : (n : Int) = 1
  · have hO : own (n : Int) = 1 := by unfold own; rw [if_pos hk]
    rw [hO] at O
    have HE : Hid (enCs ⟨(n : Int), x, re, im, c, m⟩ = [n] ++ enc (fo x)) := by show _ = _; rw [HE0.out]; rw [if_pos hk]; simp
    clear HE0 hO hk
    go_enter Tryz.func44, Tryz.ntmps44
    go_wp2_with fail
    refine B.mono ?_
    rintro e w1 ⟨rfl, u1, g1, s1⟩
    obtain ⟨c0, c1, c2, c3, c4⟩ := HBX.out w1 u1 s1
    go_wp2_with fail
    refine (O w1).mono ?_
    rintro e w1 ⟨rfl, rfl⟩
    go_wp2_with fail
    refine (wt_int w0 w1 p u1 _ g1 (by simp; omega) x f1 f2).mono ?_
    rintro e w2 ⟨rfl, u2, g2, s2⟩
    have s2' := s1.trans s2
    clear c0 c1 c2 c3 c4
    obtain ⟨c0, c1, c2, c3, c4⟩ := HBX.out w2 u2 s2'
    go_wp2_with fail
    go_end0
    rw [HE.out]
    exact ⟨rfl, u2, by simpa using g2, s2'.alloc⟩
  have k1 := hk
  clear hk
  by_cases hk : (n : Int) = 2
  · have hO : own (n : Int) = 2 := by unfold own; rw [if_neg k1, if_pos hk]
    rw [hO] at O
    have HE : Hid (enCs ⟨(n : Int), x, re, im, c, m⟩ = [n] ++ (le re 8 ++ le im 8)) := by show _ = _; rw [HE0.out]; rw [if_neg k1, if_pos hk]; simp
    clear HE0 hO hk
    go_enter Tryz.func44, Tryz.ntmps44
    go_wp2_with fail
    refine B.mono ?_
    rintro e w1 ⟨rfl, u1, g1, s1⟩
    obtain ⟨c0, c1, c2, c3, c4⟩ := HBX.out w1 u1 s1
    go_wp2_with fail
    refine (O w1).mono ?_
    rintro e w1 ⟨rfl, rfl⟩
    go_wp2_with fail
    refine (wt_cplx w0 w1 p u1 _ g1 (by simp; omega) re im f3 f4).mono ?_
    rintro e w2 ⟨rfl, u2, g2, s2⟩
    have s2' := s1.trans s2
    clear c0 c1 c2 c3 c4
    obtain ⟨c0, c1, c2, c3, c4⟩ := HBX.out w2 u2 s2'
    go_wp2_with fail
    go_end0
    rw [HE.out]
    exact ⟨rfl, u2, by simpa using g2, s2'.alloc⟩
  have k2 := hk
  clear hk
  by_cases hk : (n : Int) = 3
  · have hO : own (n : Int) = 4 := by unfold own; rw [if_neg k1, if_neg k2, if_pos hk]
    rw [hO] at O
    have HE : Hid (enCs ⟨(n : Int), x, re, im, c, m⟩ = [n] ++ enTx c) := by show _ = _; rw [HE0.out]; rw [if_neg k1, if_neg k2, if_pos hk]; simp
    clear HE0 hO hk
    go_enter Tryz.func44, Tryz.ntmps44
    go_wp2_with fail
    refine B.mono ?_
    rintro e w1 ⟨rfl, u1, g1, s1⟩
    obtain ⟨c0, c1, c2, c3, c4⟩ := HBX.out w1 u1 s1
    go_wp2_with fail
    refine (O w1).mono ?_
    rintro e w1 ⟨rfl, rfl⟩
    go_wp2_with fail
    refine (wt_text w0 w1 p u1 _ g1 c (by simp; omega)).mono ?_
    rintro e w2 ⟨rfl, u2, g2, s2⟩
    have s2' := s1.trans s2
    clear c0 c1 c2 c3 c4
    obtain ⟨c0, c1, c2, c3, c4⟩ := HBX.out w2 u2 s2'
    go_wp2_with fail
    go_end0
    rw [HE.out]
    exact ⟨rfl, u2, by simpa using g2, s2'.alloc⟩
  have k3 := hk
  clear hk
  have hk : (n : Int) = 4 ∨ (n : Int) = 5 := by omega
  have hO : own (n : Int) = 12 := by unfold own; rw [if_neg k1, if_neg k2, if_neg k3, if_pos hk]
  rw [hO] at O
  have HE : Hid (enCs ⟨(n : Int), x, re, im, c, m⟩ = [n] ++ (enTx c ++ enTx m)) := by show _ = _; rw [HE0.out]; rw [if_neg k1, if_neg k2, if_neg k3, if_pos hk]; simp
  clear HE0 hO hk k1 k2 k3
  go_enter Tryz.func44, Tryz.ntmps44
  go_wp2_with fail
  refine B.mono ?_
  rintro e w1 ⟨rfl, u1, g1, s1⟩
  obtain ⟨c0, c1, c2, c3, c4⟩ := HBX.out w1 u1 s1
  go_wp2_with fail
  refine (O w1).mono ?_
  rintro e w1 ⟨rfl, rfl⟩
  go_wp2_with fail
  refine (wt_text w0 w1 p u1 _ g1 c (by simp; omega)).mono ?_
  rintro e w2 ⟨rfl, u2, g2, s2⟩
  have s2' := s1.trans s2
  clear c0 c1 c2 c3 c4
  obtain ⟨c0, c1, c2, c3, c4⟩ := HBX.out w2 u2 s2'
  go_wp2_with fail
  refine (wt_text w0 w2 p u2 _ g2 m (by have := enTx_len c h3; simp; omega)).mono ?_
  rintro e w3 ⟨rfl, u3, g3, s3⟩
  go_wp2_with fail
  go_end0
  rw [HE.out]
  exact ⟨rfl, u3, by simpa using g3, (s2'.trans s3).alloc⟩
end Go.Proofs.YthncdbobjeeeaaaGreatDoor

/- A method on the wire; a class's bytes. -/
namespace Go.Proofs.YthncdbobjeeeaaaGreatDoor
open Go.ChangeShapes Go.WideShapes Go.ChangeAt Go.RowKit

theorem Sp.beside {w w' : World} {p : Nat} {u : Value} (hf : Fr no w w') : Sp (fun k => k = p) u w u w' := ⟨hf.mono (fun _ _ f => f.elim), fun _ _ e => e⟩

theorem ptE_ok (l : List (Int × Int)) (h1 : l.length ≤ 200) (h2 : allIs l = true) : ptE l = 0 := by unfold ptE; rw [if_neg (by omega), if_pos h2]

set_option maxRecDepth 100000 in
set_option maxHeartbeats 2000000 in
theorem writeMethod_any (w0 w : World) (T : Tb w0) (p : Nat) (u : Value) (l : List Nat) (h : WT w0 w p u l) (hb : l.length ≤ 10000000) (s : Ms) (m : Mt) (hm : MtAt w0 s m) (hv : VMt m) :
    Calls Tryz.prog 48 #[.pointer (some ⟨p, 0, none⟩), .agg #[.string s.name, .slice s.p.a s.p.n s.p.c, .int .i64 s.ret.k, .string s.ret.c, .int .i64 s.lo, .int .i64 s.st, .slice s.c.a s.c.n s.c.c, .slice s.h.a s.h.n s.h.c]] w fun e w' => e = .returned (.tuple #[]) ∧ ∃ u', WT w0 w' p u' (l ++ enMt m) ∧ Sp (fun k => k = p) u w u' w' := by
  have hpp := hm.p
  have hcc := hm.c
  have hhh := hm.h
  obtain ⟨pa, pc, ca, cc, ha, hc, rfl, _⟩ := hm.open
  clear hm
  have hlo := hv.lo
  have hst := hv.st
  obtain ⟨name, params, ret, mlo, mst, code, hands⟩ := m
  simp only [] at hpp hcc hhh hlo hst
  obtain ⟨lo, rfl⟩ : ∃ n : Nat, mlo = (n : Int) := ⟨mlo.toNat, by omega⟩
  obtain ⟨st, rfl⟩ : ∃ n : Nat, mst = (n : Int) := ⟨mst.toNat, by omega⟩
  simp only []
  have hk := h.kept ((Fr.refl no w).alloc #[.string name, .slice pa params.length pc, .int .i64 ret.k, .string ret.c, .int .i64 (lo : Int), .int .i64 (st : Int), .slice ca code.length cc, .slice ha hands.length hc] 53)
  have hbx := heap_alloc_new w (.cells #[.string name, .slice pa params.length pc, .int .i64 ret.k, .string ret.c, .int .i64 (lo : Int), .int .i64 (st : Int), .slice ca code.length cc, .slice ha hands.length hc] 53)
  have HBX : Hid (∀ w1 u1, Sp (fun k => k = p) u (w.alloc (.cells #[.string name, .slice pa params.length pc, .int .i64 ret.k, .string ret.c, .int .i64 (lo : Int), .int .i64 (st : Int), .slice ca code.length cc, .slice ha hands.length hc] 53)) u1 w1 → _) := fun w1 u1 s1 => box8 (Sp.box h s1 hbx rfl)
  have a1 : (enTx name).length ≤ 30 := enTx_len _ hv.name
  have a2 := enL_len enTy params 31 (fun t ht => enTy_len t (hv.params t ht))
  have a3 : (enTy ret).length ≤ 31 := enTy_len _ hv.ret
  have b1 : params.length ≤ 6 := hv.pl
  have c1 : params.length * 31 ≤ 6 * 31 := Nat.mul_le_mul_right _ b1
  have hn : name.size ≤ 20 := hv.name
  have B := wt_text w0 _ p u l hk name (by omega)
  have LP : Hid (∀ w1 u1 l1, WT w0 w1 p u1 l1 → l1.length ≤ 20000000 → Calls Tryz.prog 98 #[.pointer (some ⟨p, 0, none⟩), .slice pa params.length pc, .func (.func 97) #[] #[]] w1 fun e w' => e = .returned (.tuple #[]) ∧ ∃ u', WT w0 w' p u' (l1 ++ enL enTy params) ∧ Sp (fun k => k = p) u1 w1 u' w') :=
    fun w1 u1 l1 g1 hl1 => writeTy_list w0 w1 p u1 l1 g1 _ params hpp 90000000 (by omega) (by omega) (by omega) enTy (fun t ht => by have := enTy_len t (hv.params t ht); omega) (fun w2 u2 l2 x hx g2 hl2 => writeType_any w0 w2 p u2 l2 g2 (by omega) x (hv.params x hx))
  have LH : Hid (∀ w1 u1 l1, WT w0 w1 p u1 l1 → l1.length ≤ 20000000 → Calls Tryz.prog 100 #[.pointer (some ⟨p, 0, none⟩), .slice ha hands.length hc, .func (.func 101) #[] #[]] w1 fun e w' => e = .returned (.tuple #[]) ∧ ∃ u', WT w0 w' p u' (l1 ++ enL enHd hands) ∧ Sp (fun k => k = p) u1 w1 u' w') :=
    fun w1 u1 l1 g1 hl1 => writeHd_list w0 w1 p u1 l1 g1 _ hands hhh 90000000 (by omega) (by have := hv.hl; simp only [] at this; omega) (by have := hv.hl; simp only [] at this; omega) enHd (fun t ht => by have := enHd_len t; omega) (fun w2 u2 l2 x hx g2 hl2 => writeHandler_any w0 w2 p u2 l2 g2 (by omega) x (hv.hands x hx))
  have PU : Hid (∀ w1, Fr no w0 w1 → Calls Tryz.prog 99 #[.slice ca code.length cc] w1 fun e w' => ∃ v', e = .returned (.tuple #[v', .int .i64 0]) ∧ Own w' v' (ptB code) ∧ Fr no w1 w') := by
    intro w1 f1
    have := put_any w1 (T.kept f1) _ code (hcc.kept f1)
    rwa [ptE_ok _ hv.cl hv.code] at this
  have HR : Hid (VTy ret) := hv.ret
  have a4 := enc_length lo
  have a5 := enc_length st
  have a6 := ptB_len code hv.cl
  have a7 := enc_length (ptB code).length
  have HE : Hid (enMt ⟨name, params, ret, (lo : Int), (st : Int), code, hands⟩ = enTx name ++ (enL enTy params ++ (enTy ret ++ (enc lo ++ (enc st ++ (enTx (bstr (ptB code)) ++ enL enHd hands)))))) := by
    show _ = _
    have e1 : enTx (bstr (ptB code)) = enc (ptB code).length ++ ptB code := by
      unfold enTx
      rw [bstr_size, nl_bstr]
      have : ptB code = enc code.length ++ wri code := by unfold ptB; rw [if_pos ⟨hv.cl, hv.code⟩]
      rw [this]
      exact put_byte code hv.code
    rw [e1]
    rfl
  have hbs : (bstr (ptB code)).size ≤ 2210 := by rw [bstr_size]; exact a6
  have a8 : (enTx (bstr (ptB code))).length ≤ 2220 := by
    unfold enTx
    have := enc_length (bstr (ptB code)).size
    rw [List.length_append, nl_length]
    omega
  have hret : Hid (VTy ret) := hv.ret
  clear hk hbx h hv hpp hcc hhh a7 HR
  go_enter Tryz.func48, Tryz.ntmps48
  go_wp2_with fail
  refine B.mono ?_
  rintro e w1 ⟨rfl, u1, g1, s1⟩
  obtain ⟨c0, c1, c2, c3, c4, c5, c6, c7⟩ := HBX.out w1 u1 s1
  go_wp2_with fail
  refine (LP.out w1 u1 _ g1 (by simp only [List.length_append]; omega)).mono ?_
  rintro e w2 ⟨rfl, u2, g2, t2⟩
  have s2 := s1.trans t2
  clear c0 c1 c2 c3 c4 c5 c6 c7 t2 s1 g1
  obtain ⟨c0, c1, c2, c3, c4, c5, c6, c7⟩ := HBX.out w2 u2 s2
  go_wp2_with fail
  refine (writeType_any w0 w2 p u2 _ g2 (by simp only [List.length_append]; omega) ret hret.out).mono ?_
  rintro e w3 ⟨rfl, u3, g3, t3⟩
  have s3 := s2.trans t3
  clear c0 c1 c2 c3 c4 c5 c6 c7 t3 s2 g2
  obtain ⟨c0, c1, c2, c3, c4, c5, c6, c7⟩ := HBX.out w3 u3 s3
  go_wp2_with fail
  refine (writeCount_any w0 w3 p u3 _ g3 (by simp only [List.length_append]; omega) lo (by omega)).mono ?_
  rintro e w4 ⟨rfl, u4, g4, t4⟩
  have s4 := s3.trans t4
  clear c0 c1 c2 c3 c4 c5 c6 c7 t4 s3 g3
  obtain ⟨c0, c1, c2, c3, c4, c5, c6, c7⟩ := HBX.out w4 u4 s4
  go_wp2_with fail
  refine (writeCount_any w0 w4 p u4 _ g4 (by simp only [List.length_append]; omega) st (by omega)).mono ?_
  rintro e w5 ⟨rfl, u5, g5, t5⟩
  have s5 := s4.trans t5
  clear c0 c1 c2 c3 c4 c5 c6 c7 t5 s4 g4
  obtain ⟨c0, c1, c2, c3, c4, c5, c6, c7⟩ := HBX.out w5 u5 s5
  go_wp2_with fail
  refine (PU.out w5 g5.fr).mono ?_
  rintro e w6 ⟨v6, rfl, o6, f6⟩
  have g6 := g5.kept f6
  have s6 := s5.trans (Sp.beside (p := p) (u := u5) f6)
  clear c0 c1 c2 c3 c4 c5 c6 c7 s5 g5
  obtain ⟨c0, c1, c2, c3, c4, c5, c6, c7⟩ := HBX.out w6 u5 s6
  have hcv := conv_own w6 v6 _ o6
  go_wp2_with fail
  refine (wt_text w0 w6 p u5 _ g6 (bstr (ptB code)) (by simp only [List.length_append]; omega)).mono ?_
  rintro e w7 ⟨rfl, u7, g7, t7⟩
  have s7 := s6.trans t7
  clear c0 c1 c2 c3 c4 c5 c6 c7 t7 s6 g6 hcv o6
  obtain ⟨c0, c1, c2, c3, c4, c5, c6, c7⟩ := HBX.out w7 u7 s7
  go_wp2_with fail
  refine (LH.out w7 u7 _ g7 (by simp only [List.length_append]; omega)).mono ?_
  rintro e w8 ⟨rfl, u8, g8, t8⟩
  go_wp2_with fail
  go_end0
  rw [HE.out]
  exact ⟨rfl, u8, by simpa using g8, (s7.trans t8).alloc⟩

/-- What Encode writes. -/
def ecB (c : Cl) : List Nat := if chk c = 0 ∧ (enCl c).length ≤ 20000 then enCl c else []
/-- The error that it tells. -/
def ecE (c : Cl) : Nat := if chk c = 0 then (if 20000 < (enCl c).length then 32 else 0) else chk c

/-- A class whose texts and numbers a machine can hold. -/
structure FitK (c : Cl) : Prop where
  f : FitC c
  pool : ∀ x ∈ c.pool, FitCs x

def mk4 (j : Nat) : List Nat := [76, 79, 79, 77].take j

set_option maxRecDepth 100000 in
set_option maxHeartbeats 4000000 in
theorem encode_any (w : World) (T : Tb w) (R : Tr w) (s : Ks) (c : Cl) (hc : ClAt w s c) (hf : FitK c) : Calls Tryz.prog 13 #[ksV s] w fun e w' => ∃ v', e = .returned (.tuple #[v', .int .i64 (ecE c : Int)]) ∧ Own w' v' (ecB c) ∧ Fr no w w' := by
  have hc0 := hc
  obtain ⟨sn, ss, sp, sf, sm⟩ := s
  obtain ⟨e1, e2, hp, hfi, ls, hm, hma⟩ := hc
  simp only [] at e1 e2 hp hfi hm
  subst e1 e2
  have HF : Hid (Fr no w (w.alloc (.cells #[.string c.name, .string c.super, .slice sp.a sp.n sp.c, .slice sf.a sf.n sf.c, .slice sm.a sm.n sm.c] 28))) := (Fr.refl no w).alloc _ _
  have hb0 : BoxK (w.alloc (.cells #[.string c.name, .string c.super, .slice sp.a sp.n sp.c, .slice sf.a sf.n sf.c, .slice sm.a sm.n sm.c] 28)) w.heap.size ⟨c.name, c.super, sp, sf, sm⟩ := heap_alloc_new w _
  generalize hW : w.alloc (.cells #[.string c.name, .string c.super, .slice sp.a sp.n sp.c, .slice sf.a sf.n sf.c, .slice sm.a sm.n sm.c] 28) = W at *
  have HB : Hid (∀ w1, Fr no W w1 → _) := fun w1 f1 => box5 (hb0.kept f1)
  have C := check_any W (T.kept HF.out) (R.kept HF.out) ⟨c.name, c.super, sp, sf, sm⟩ c (hc0.kept HF.out) hf.f
  obtain ⟨b0, b1, b2, b3, b4⟩ := HB.out W (Fr.refl no _)
  unfold ksV at *
  simp only [] at C ⊢
  clear hb0 hc0
  by_cases hK : chk c = 0
  · rw [hK] at C
    have hv := vcl c hK
    have l1 := enTx_len _ hv.name
    have l2 := enTx_len _ hv.super
    have l3 := enL_len enCs c.pool 61 (fun x hx => enCs_len x (hv.pool x hx))
    have l4 := enL_len enFd c.fields 62 (fun x hx => enFd_len x (hv.fields x hx))
    have l5 := enL_len enMt c.methods 3400 (fun x hx => enMt_len x (hv.methods x hx))
    have k1 := hv.pl
    have k2 := hv.fl
    have k3 := hv.ml
    have c1 : c.pool.length * 61 ≤ 128 * 61 := Nat.mul_le_mul_right _ k1
    have c2 : c.fields.length * 62 ≤ 8 * 62 := Nat.mul_le_mul_right _ k2
    have c3 : c.methods.length * 3400 ≤ 12 * 3400 := Nat.mul_le_mul_right _ k3
    have hn1 := hv.name
    have hn2 := hv.super
    have hmL : ls.length = c.methods.length := hma.1
    have LC : Hid (∀ w0 w1 p u1 l1, Fr no w w0 → WT w0 w1 p u1 l1 → l1.length ≤ 100000 → Calls Tryz.prog 43 #[.pointer (some ⟨p, 0, none⟩), .slice sp.a sp.n sp.c, .func (.func 44) #[] #[]] w1 fun e w' => e = .returned (.tuple #[]) ∧ ∃ u', WT w0 w' p u' (l1 ++ enL enCs c.pool)) := by
      intro w0 w1 p u1 l1 f0 g1 hl
      refine (writeCs_list w0 w1 p u1 l1 g1 _ c.pool (hp.kept f0) 80000000 (by omega) (by omega) (by omega) enCs (fun x hx => by have := enCs_len x (hv.pool x hx); omega) (fun w2 u2 l2 x hx g2 hl2 => writeConst_any w0 w2 p u2 l2 g2 (by omega) x (hv.pool x hx) (hf.pool x hx))).mono ?_
      rintro e w' ⟨rfl, u', g, _⟩
      exact ⟨rfl, u', g⟩
    have LF : Hid (∀ w0 w1 p u1 l1, Fr no w w0 → WT w0 w1 p u1 l1 → l1.length ≤ 100000 → Calls Tryz.prog 45 #[.pointer (some ⟨p, 0, none⟩), .slice sf.a sf.n sf.c, .func (.func 46) #[] #[]] w1 fun e w' => e = .returned (.tuple #[]) ∧ ∃ u', WT w0 w' p u' (l1 ++ enL enFd c.fields)) := by
      intro w0 w1 p u1 l1 f0 g1 hl
      refine (writeFd_list w0 w1 p u1 l1 g1 _ c.fields (hfi.kept f0) 80000000 (by omega) (by omega) (by omega) enFd (fun x hx => by have := enFd_len x (hv.fields x hx); omega) (fun w2 u2 l2 x hx g2 hl2 => writeField_any w0 w2 p u2 l2 g2 (by omega) x (hv.fields x hx))).mono ?_
      rintro e w' ⟨rfl, u', g, _⟩
      exact ⟨rfl, u', g⟩
    have LM : Hid (∀ w0 w1 p u1 l1, Fr no w w0 → WT w0 w1 p u1 l1 → l1.length ≤ 100000 → Calls Tryz.prog 47 #[.pointer (some ⟨p, 0, none⟩), .slice sm.a sm.n sm.c, .func (.func 48) #[] #[]] w1 fun e w' => e = .returned (.tuple #[]) ∧ ∃ u', WT w0 w' p u' (l1 ++ enL enMt c.methods)) := by
      intro w0 w1 p u1 l1 f0 g1 hl
      have R1 := writeMs_list w0 w1 p u1 l1 g1 _ ls (hm.kept f0) 1000000 (by omega) (by omega) (by omega) (c.methods.map enMt) (by simp [hmL]) (fun b hb => by
        obtain ⟨x, hx, rfl⟩ := List.mem_map.1 hb
        have := enMt_len x (hv.methods x hx)
        omega) (fun w2 u2 l2 k x y hx hy g2 hl2 => by
        rw [List.getElem?_map] at hy
        obtain ⟨m, hm1, rfl⟩ := Option.map_eq_some_iff.1 hy
        exact writeMethod_any w0 w2 (T.kept f0) p u2 l2 g2 (by omega) x m ((hma.2 k x m hx hm1).kept f0) (hv.methods m (List.mem_of_getElem? hm1)))
      rw [hmL, ← List.flatMap_def] at R1
      refine R1.mono ?_
      rintro e w' ⟨rfl, u', g, _⟩
      exact ⟨rfl, u', g⟩
    have HE : Hid (enCl c = ([76, 79, 79, 77] ++ [1]) ++ (enTx c.name ++ (enTx c.super ++ (enL enCs c.pool ++ (enL enFd c.fields ++ enL enMt c.methods))))) := rfl
    have HK1 : Hid (ecE c = if 20000 < (enCl c).length then 32 else 0) := by show _ = _; unfold ecE; rw [if_pos hK]
    have HK2 : Hid (ecB c = if (enCl c).length ≤ 20000 then enCl c else []) := by show _ = _; unfold ecB; simp [hK]
    have hlen : (enCl c).length ≤ 100000 := by have := enCl_len c hv; omega
    clear hp hfi hm hma hv hK k1 k2 k3
    go_enter Tryz.func13, Tryz.ntmps13
    go_wp2_with fail
    refine C.mono ?_
    rintro e w1 ⟨rfl, f1⟩
    have HF1 : Hid (Fr no w w1) := HF.out.new f1 (fun _ _ f => f)
    clear b0 b1 b2 b3 b4
    go_wp2_with fail
    refine (new_any w1).mono ?_
    rintro e w2 ⟨rfl, wt2, f2⟩
    have g2 : WT w1 w2 w1.heap.size nv [] := ⟨wt2, Nat.le_refl _, fun k hk => by simp [nv, Value.ownBlock] at hk, f2⟩
    clear wt2 f2
    generalize w1.heap.size = p at *
    go_wp2_with fail
    go_loopw [14] (fun i wr => ∃ (j : Nat) (u : Value), i = .int .i64 (j : Int) ∧ j ≤ 4 ∧ WT w1 wr p u (mk4 j)) (fun i _ => 4 - (intOf i).toNat)
    case atStart => exact ⟨0, nv, rfl, by omega, g2⟩
    case round =>
      obtain ⟨j, u, rfl, hj, g3⟩ := hrel
      clear g2
      by_cases hj4 : j < 4
      · rcases (show j = 0 ∨ j = 1 ∨ j = 2 ∨ j = 3 by omega) with rfl | rfl | rfl | rfl
        · have B := wt_byte w1 wr p u _ g3 (by simp [mk4]) 76
          go_wp2_with fail
          refine B.mono ?_
          rintro e w3 ⟨rfl, u3, g4, _⟩
          go_wp2_with fail
          go_roundw
          case rel => exact ⟨1, u3, by go_num, by omega, g4⟩
          case measure => simp [intOf]
        · have B := wt_byte w1 wr p u _ g3 (by simp [mk4]) 79
          go_wp2_with fail
          refine B.mono ?_
          rintro e w3 ⟨rfl, u3, g4, _⟩
          go_wp2_with fail
          go_roundw
          case rel => exact ⟨2, u3, by go_num, by omega, g4⟩
          case measure => simp [intOf]
        · have B := wt_byte w1 wr p u _ g3 (by simp [mk4]) 79
          go_wp2_with fail
          refine B.mono ?_
          rintro e w3 ⟨rfl, u3, g4, _⟩
          go_wp2_with fail
          go_roundw
          case rel => exact ⟨3, u3, by go_num, by omega, g4⟩
          case measure => simp [intOf]
        · have B := wt_byte w1 wr p u _ g3 (by simp [mk4]) 77
          go_wp2_with fail
          refine B.mono ?_
          rintro e w3 ⟨rfl, u3, g4, _⟩
          go_wp2_with fail
          go_roundw
          case rel => exact ⟨4, u3, by go_num, by omega, g4⟩
          case measure => simp [intOf]
      · have : j = 4 := by omega
        subst this
        have g3 : WT w1 wr p u [76, 79, 79, 77] := g3
        obtain ⟨b0, b1, b2, b3, b4⟩ := HB.out wr (f1.new g3.fr (fun _ _ f => f))
        go_wp2_with fail
        refine (wt_byte w1 wr p u _ g3 (by simp) 1).mono ?_
        rintro e w4 ⟨rfl, u4, g4, _⟩
        clear b0 b1 b2 b3 b4 g3
        obtain ⟨b0, b1, b2, b3, b4⟩ := HB.out w4 (f1.new g4.fr (fun _ _ f => f))
        go_wp2_with fail
        refine (wt_text w1 w4 p u4 _ g4 c.name (by simp; omega)).mono ?_
        rintro e w5 ⟨rfl, u5, g5, _⟩
        clear b0 b1 b2 b3 b4 g4
        obtain ⟨b0, b1, b2, b3, b4⟩ := HB.out w5 (f1.new g5.fr (fun _ _ f => f))
        go_wp2_with fail
        refine (wt_text w1 w5 p u5 _ g5 c.super (by simp only [List.length_append, List.length_cons, List.length_nil]; omega)).mono ?_
        rintro e w6 ⟨rfl, u6, g6, _⟩
        clear b0 b1 b2 b3 b4 g5
        obtain ⟨b0, b1, b2, b3, b4⟩ := HB.out w6 (f1.new g6.fr (fun _ _ f => f))
        go_wp2_with fail
        refine (LC.out w1 w6 p u6 _ HF1.out g6 (by simp only [List.length_append, List.length_cons, List.length_nil]; omega)).mono ?_
        rintro e w7 ⟨rfl, u7, g7⟩
        clear b0 b1 b2 b3 b4 g6
        obtain ⟨b0, b1, b2, b3, b4⟩ := HB.out w7 (f1.new g7.fr (fun _ _ f => f))
        go_wp2_with fail
        refine (LF.out w1 w7 p u7 _ HF1.out g7 (by simp only [List.length_append, List.length_cons, List.length_nil]; omega)).mono ?_
        rintro e w8 ⟨rfl, u8, g8⟩
        clear b0 b1 b2 b3 b4 g7
        obtain ⟨b0, b1, b2, b3, b4⟩ := HB.out w8 (f1.new g8.fr (fun _ _ f => f))
        go_wp2_with fail
        refine (LM.out w1 w8 p u8 _ HF1.out g8 (by simp only [List.length_append, List.length_cons, List.length_nil]; omega)).mono ?_
        rintro e w9 ⟨rfl, u9, g9⟩
        clear b0 b1 b2 b3 b4 g8
        have eq : ((((([76, 79, 79, 77] ++ [1]) ++ enTx c.name) ++ enTx c.super) ++ enL enCs c.pool) ++ enL enFd c.fields) ++ enL enMt c.methods = enCl c := by rw [HE.out]; simp
        rw [eq] at g9
        clear eq HE
        go_wp2_with fail
        refine (wb_bytes w1 w9 p _ g9.wb (by omega)).mono ?_
        rintro e w10 ⟨v10, rfl, o10, g10, _, _⟩
        have f10 := HF1.out.new g10.fr (fun _ _ f => f)
        clear g9 g10
        obtain ⟨oo, cc, e10⟩ := o10.shape
        subst e10
        by_cases hbig : 20000 < (enCl c).length
        · rw [if_pos hbig] at HK1
          rw [if_neg (by omega)] at HK2
          go_wp2_with fail
          go_ret2
          rw [HK1.out, HK2.out]
          exact ⟨_, rfl, Own.nil _, f10⟩
        · rw [if_neg hbig] at HK1
          rw [if_pos (by omega)] at HK2
          have hbig' : ¬ (20000 : Int) < ((enCl c).length : Int) := by omega
          go_wp2_with fail
          go_ret2
          rw [HK1.out, HK2.out]
          exact ⟨_, rfl, o10, f10⟩
  · have HE : Hid (ecE c = chk c) := by show _ = _; unfold ecE; rw [if_neg hK]
    have HB2 : Hid (ecB c = []) := by show _ = _; unfold ecB; rw [if_neg (fun h => hK h.1)]
    have hK' : ((chk c : Int) == 0) = false := beq_eq_false_iff_ne.2 (by omega)
    generalize chk c = err at *
    clear hp hfi hm hma
    go_enter Tryz.func13, Tryz.ntmps13
    go_wp2_with fail
    refine C.mono ?_
    rintro e w1 ⟨rfl, f1⟩
    go_wp2_with fail
    go_ret2
    rw [HE.out, HB2.out]
    exact ⟨_, rfl, Own.nil _, HF.out.new f1 (fun _ _ f => f)⟩
end Go.Proofs.YthncdbobjeeeaaaGreatDoor

