/- What is right with a class of which Check tells nothing; and the bytes of a class. -/
import Derived.Test.YthncdbobjeeeaaaGreatDoorCheck
namespace Go.Proofs.YthncdbobjeeeaaaGreatDoor

theorem firstE_zero {α : Type} (ask : α → List α → Nat) (l : List α) : ∀ ahead, firstE ask ahead l = 0 → ∀ x ∈ l, ∃ a, ask x a = 0 := by
  induction l with
  | nil => intro _ _ x hx; simp at hx
  | cons y r ih =>
    intro ahead h x hx
    unfold firstE at h
    by_cases h0 : ask y ahead = 0
    · rw [if_neg (fun h => h h0)] at h
      rcases List.mem_cons.1 hx with rfl | hx
      · exact ⟨_, h0⟩
      · exact ih _ h x hx
    · rw [if_pos h0] at h; exact absurd h h0

theorem eachE_zero {α : Type} (most : Nat) (ask : α → List α → Nat) (l : List α) (h : eachE most ask l = 0) : l.length ≤ most ∧ ∀ x ∈ l, ∃ a, ask x a = 0 := by
  unfold eachE at h
  by_cases h0 : most < l.length
  · rw [if_pos h0] at h; simp at h
  · rw [if_neg h0] at h
    exact ⟨by omega, firstE_zero ask l [] h⟩

theorem name_size (s : ByteArray) (h : isName s = true) : 0 < s.size ∧ s.size ≤ 20 := by
  unfold isName nameL at h
  simp only [Bool.and_eq_true, decide_eq_true_eq] at h
  obtain ⟨⟨⟨h1, h2⟩, _⟩, _⟩ := h
  rw [nl_length] at h2
  refine ⟨?_, h2⟩
  have := List.length_pos_iff.2 h1
  rwa [nl_length] at this

theorem e0_size : e0.size = 0 := rfl

/-- A type that may be. -/
structure VTy (t : Ty) : Prop where
  lo : 0 ≤ t.k
  hi : t.k ≤ 4
  sz : t.c.size ≤ 20
  em : t.k ≠ 4 → t.c = e0

theorem vty (t : Ty) (v : Bool) (h : isType t v = true) : VTy t := by
  unfold isType at h
  by_cases h4 : t.k = 4
  · rw [if_pos h4] at h
    exact ⟨by omega, by omega, (name_size _ h).2, fun h => absurd h4 h⟩
  · rw [if_neg h4] at h
    by_cases h1 : t.k = 1 ∨ t.k = 2 ∨ t.k = 3
    · rw [if_pos h1] at h
      have h := of_decide_eq_true h
      exact ⟨by omega, by omega, by rw [h, e0_size]; omega, fun _ => h⟩
    · rw [if_neg h1] at h
      by_cases h0 : t.k = 0
      · rw [if_pos h0] at h
        simp only [Bool.and_eq_true, decide_eq_true_eq] at h
        exact ⟨by omega, by omega, by rw [h.2, e0_size]; omega, fun _ => h.2⟩
      · rw [if_neg h0] at h; simp at h

/-- A constant that may be. -/
structure VCs (x : Cs) : Prop where
  lo : 1 ≤ x.k
  hi : x.k ≤ 5
  sc : x.c.size ≤ 20
  sm : x.m.size ≤ 20
  n : x.k ≠ 1 → x.n = 0
  z : x.k ≠ 2 → x.re = 0 ∧ x.im = 0
  c : x.k < 3 → x.c = e0
  m : x.k < 4 → x.m = e0

theorem vcs (x : Cs) (h : ckCs x = 0) : VCs x := by
  unfold ckCs at h
  by_cases h1 : x.k = 1
  · rw [if_pos h1] at h
    by_cases g : x.re = 0 ∧ x.im = 0 ∧ x.c = e0 ∧ x.m = e0
    · exact ⟨by omega, by omega, by rw [g.2.2.1, e0_size]; omega, by rw [g.2.2.2, e0_size]; omega, fun h => absurd h1 h, fun _ => ⟨g.1, g.2.1⟩, fun _ => g.2.2.1, fun _ => g.2.2.2⟩
    · rw [if_neg g] at h; simp at h
  rw [if_neg h1] at h
  by_cases h2 : x.k = 2
  · rw [if_pos h2] at h
    by_cases g : x.n = 0 ∧ x.c = e0 ∧ x.m = e0
    · exact ⟨by omega, by omega, by rw [g.2.1, e0_size]; omega, by rw [g.2.2, e0_size]; omega, fun _ => g.1, fun h => absurd h2 h, fun _ => g.2.1, fun _ => g.2.2⟩
    · rw [if_neg g] at h; simp at h
  rw [if_neg h2] at h
  by_cases h3 : x.k = 3
  · rw [if_pos h3] at h
    by_cases g : x.n = 0 ∧ x.re = 0 ∧ x.im = 0 ∧ x.m = e0
    · rw [if_pos g] at h
      by_cases gn : isName x.c = true
      · exact ⟨by omega, by omega, (name_size _ gn).2, by rw [g.2.2.2, e0_size]; omega, fun _ => g.1, fun _ => ⟨g.2.1, g.2.2.1⟩, fun h => by omega, fun _ => g.2.2.2⟩
      · rw [if_neg gn] at h; simp at h
    · rw [if_neg g] at h; simp at h
  rw [if_neg h3] at h
  by_cases h4 : x.k = 4 ∨ x.k = 5
  · rw [if_pos h4] at h
    by_cases g : x.n = 0 ∧ x.re = 0 ∧ x.im = 0
    · rw [if_pos g] at h
      by_cases gn : isName x.c = true ∧ isName x.m = true
      · exact ⟨by omega, by omega, (name_size _ gn.1).2, (name_size _ gn.2).2, fun _ => g.1, fun _ => g.2, fun h => by omega, fun h => by omega⟩
      · rw [if_neg gn] at h; simp at h
    · rw [if_neg g] at h; simp at h
  · rw [if_neg h4] at h; simp at h

/-- A field that may be. -/
structure VFd (x : Fd) : Prop where
  name : x.name.size ≤ 20
  ty : VTy x.ty

theorem vfd (x : Fd) (a : List Fd) (h : ckFd x a = 0) : VFd x := by
  unfold ckFd at h
  by_cases g : isName x.name = true ∧ isType x.ty false = true
  · exact ⟨(name_size _ g.1).2, vty _ _ g.2⟩
  · rw [if_neg g] at h; simp at h

/-- A handler that may be. -/
structure VHd (h : Hd) : Prop where
  fr : 0 ≤ h.fr ∧ h.fr ≤ 200
  to : 0 ≤ h.to ∧ h.to ≤ 200
  tg : 0 ≤ h.tg ∧ h.tg ≤ 200
  cl : -1 ≤ h.cl ∧ h.cl ≤ 127
  dp : 0 ≤ h.dp ∧ h.dp ≤ 6

theorem cst_lt (pool : List Cs) (a k : Int) (h : isCst pool a k = true) : 0 ≤ a ∧ a < (pool.length : Int) := by
  unfold isCst at h
  simp only [Bool.and_eq_true, decide_eq_true_eq] at h
  obtain ⟨h0, h⟩ := h
  refine ⟨h0, ?_⟩
  cases e : pool[a.toNat]? with
  | none => rw [e] at h; simp at h
  | some x =>
    have := (List.getElem?_eq_some_iff.1 e).1
    omega

theorem vhd (pool : List Cs) (n : Nat) (h : Hd) (hp : pool.length ≤ 128) (hn : n ≤ 200) (hk : ckHd pool n h = 0) : VHd h := by
  unfold ckHd at hk
  by_cases g : 0 ≤ h.fr ∧ h.fr < h.to ∧ h.to ≤ (n : Int) ∧ 0 ≤ h.tg ∧ h.tg < (n : Int)
  · rw [if_pos g] at hk
    by_cases c : h.cl = -1 ∨ isCst pool h.cl 3 = true
    · rw [if_pos c] at hk
      by_cases d : 0 ≤ h.dp ∧ h.dp ≤ 6
      · refine ⟨by omega, by omega, by omega, ?_, d⟩
        rcases c with c | c
        · omega
        · have := cst_lt _ _ _ c; omega
      · rw [if_neg d] at hk; simp at hk
    · rw [if_neg c] at hk; simp at hk
  · rw [if_neg g] at hk; simp at hk

/-- A method that may be. -/
structure VMt (m : Mt) : Prop where
  name : m.name.size ≤ 20
  pl : m.params.length ≤ 6
  params : ∀ t ∈ m.params, VTy t
  ret : VTy m.ret
  lo : 0 ≤ m.lo ∧ m.lo ≤ 32
  st : 0 ≤ m.st ∧ m.st ≤ 64
  cl : m.code.length ≤ 200
  code : allIs m.code = true
  hl : m.hands.length ≤ 16
  hands : ∀ h ∈ m.hands, VHd h

theorem vmt (pool : List Cs) (m : Mt) (a : List Mt) (hp : pool.length ≤ 128) (h : ckMt pool m a = 0) : VMt m := by
  unfold ckMt at h
  by_cases hf : ckFace m a = 0
  · rw [if_neg (fun h => h hf)] at h
    have hpl := face_params m a hf
    unfold ckFace at hf
    by_cases g1 : isName m.name = true
    · rw [if_pos g1] at hf
      by_cases g2 : eachE 6 ckTy m.params = 0
      · rw [if_neg (fun h => h g2)] at hf
        by_cases g3 : isType m.ret true = true
        · unfold ckBody at h
          by_cases b1 : 1 + (m.params.length : Int) ≤ m.lo ∧ m.lo ≤ 32 ∧ 0 ≤ m.st ∧ m.st ≤ 64
          · rw [if_pos b1] at h
            by_cases b2 : m.code.length = 0
            · rw [if_pos b2] at h; simp at h
            · rw [if_neg b2] at h
              by_cases b3 : eachE 200 (fun x _ => ckIns pool m.lo m.code.length x) m.code = 0
              · rw [if_neg (fun h => h b3)] at h
                by_cases b4 : has (m.code.getD (m.code.length - 1) (0, 0)).1 1 = true
                · rw [if_pos b4] at h
                  have e1 := eachE_zero _ _ _ b3
                  have e2 := eachE_zero _ _ _ h
                  refine ⟨(name_size _ g1).2, hpl, fun t ht => ?_, vty _ _ g3, by omega, by omega, e1.1, ?_, e2.1, fun x hx => ?_⟩
                  · obtain ⟨a, ha⟩ := (eachE_zero _ _ _ g2).2 t ht
                    unfold ckTy at ha
                    by_cases q : isType t false = true
                    · exact vty _ _ q
                    · rw [if_neg q] at ha; simp at ha
                  · unfold allIs
                    rw [List.all_eq_true]
                    intro x hx
                    obtain ⟨a, ha⟩ := e1.2 x hx
                    unfold ckIns at ha
                    by_cases q : isb x.1 x.2 = true
                    · exact q
                    · rw [if_neg q] at ha; simp at ha
                  · obtain ⟨a, ha⟩ := e2.2 x hx
                    exact vhd pool _ x hp e1.1 ha
                · rw [if_neg b4] at h; simp at h
              · rw [if_pos b3] at h; exact absurd h b3
          · rw [if_neg b1] at h; simp at h
        · rw [if_neg g3] at hf; simp at hf
      · rw [if_pos g2] at hf; exact absurd hf g2
    · rw [if_neg g1] at hf; simp at hf
  · rw [if_pos hf] at h; exact absurd h hf

/-- A class that may be. -/
structure VCl (c : Cl) : Prop where
  name : c.name.size ≤ 20
  super : c.super.size ≤ 20
  pl : c.pool.length ≤ 128
  pool : ∀ x ∈ c.pool, VCs x
  fl : c.fields.length ≤ 8
  fields : ∀ x ∈ c.fields, VFd x
  ml : c.methods.length ≤ 12
  methods : ∀ m ∈ c.methods, VMt m

theorem vcl (c : Cl) (h : chk c = 0) : VCl c := by
  unfold chk at h
  by_cases g1 : isName c.name = true ∧ (c.super = e0 ∨ isName c.super = true)
  · rw [if_pos g1] at h
    by_cases g2 : eachE 128 (fun x _ => ckCs x) c.pool = 0
    · rw [if_neg (fun h => h g2)] at h
      by_cases g3 : eachE 8 ckFd c.fields = 0
      · rw [if_neg (fun h => h g3)] at h
        have e1 := eachE_zero _ _ _ g2
        have e2 := eachE_zero _ _ _ g3
        have e3 := eachE_zero _ _ _ h
        refine ⟨(name_size _ g1.1).2, ?_, e1.1, fun x hx => ?_, e2.1, fun x hx => ?_, e3.1, fun x hx => ?_⟩
        · rcases g1.2 with q | q
          · rw [q, e0_size]; omega
          · exact (name_size _ q).2
        · obtain ⟨_, ha⟩ := e1.2 x hx
          exact vcs x ha
        · obtain ⟨a, ha⟩ := e2.2 x hx
          exact vfd x a ha
        · obtain ⟨a, ha⟩ := e3.2 x hx
          exact vmt _ x a e1.1 ha
      · rw [if_pos g3] at h; exact absurd h g3
    · rw [if_pos g2] at h; exact absurd h g2
  · rw [if_neg g1] at h; simp at h

/-! ### The bytes -/
def enTx (s : ByteArray) : List Nat := enc s.size ++ nl s
def enTy (t : Ty) : List Nat := t.k.toNat :: (if t.k = 4 then enTx t.c else [])
def enCs (x : Cs) : List Nat := x.k.toNat :: (if x.k = 1 then enc (fo x.n) else if x.k = 2 then le x.re 8 ++ le x.im 8 else if x.k = 3 then enTx x.c else if x.k = 4 ∨ x.k = 5 then enTx x.c ++ enTx x.m else [])
def enFd (x : Fd) : List Nat := enTx x.name ++ (enTy x.ty ++ [if x.vol = true then 1 else 0])
def enHd (h : Hd) : List Nat := enc h.fr.toNat ++ (enc h.to.toNat ++ (enc h.tg.toNat ++ (enc (h.cl + 1).toNat ++ enc h.dp.toNat)))
/-- So many, then each. -/
def enL {α : Type} (f : α → List Nat) (l : List α) : List Nat := enc l.length ++ l.flatMap f
def enMt (m : Mt) : List Nat := enTx m.name ++ (enL enTy m.params ++ (enTy m.ret ++ (enc m.lo.toNat ++ (enc m.st.toNat ++ ((enc (ptB m.code).length ++ ptB m.code) ++ enL enHd m.hands)))))
def enCl (c : Cl) : List Nat := [76, 79, 79, 77, 1] ++ (enTx c.name ++ (enTx c.super ++ (enL enCs c.pool ++ (enL enFd c.fields ++ enL enMt c.methods))))

theorem enTx_len (s : ByteArray) (h : s.size ≤ 20) : (enTx s).length ≤ 30 := by
  unfold enTx
  have := enc_length s.size
  rw [List.length_append, nl_length]
  omega
theorem enTy_len (t : Ty) (h : VTy t) : (enTy t).length ≤ 31 := by
  unfold enTy
  have := enTx_len _ h.sz
  split <;> simp <;> omega
theorem enCs_len (x : Cs) (h : VCs x) : (enCs x).length ≤ 61 := by
  unfold enCs
  have := enTx_len _ h.sc
  have := enTx_len _ h.sm
  have := enc_length (fo x.n)
  have := le_length x.re 8
  have := le_length x.im 8
  split
  · simp; omega
  split
  · simp; omega
  split
  · simp; omega
  split <;> simp <;> omega
theorem enFd_len (x : Fd) (h : VFd x) : (enFd x).length ≤ 62 := by
  unfold enFd
  have := enTx_len _ h.name
  have := enTy_len _ h.ty
  simp
  omega
theorem enHd_len (h : Hd) : (enHd h).length ≤ 50 := by
  unfold enHd
  have := enc_length h.fr.toNat
  have := enc_length h.to.toNat
  have := enc_length h.tg.toNat
  have := enc_length (h.cl + 1).toNat
  have := enc_length h.dp.toNat
  simp
  omega
theorem flat_len {α : Type} (f : α → List Nat) (l : List α) (n : Nat) (h : ∀ x ∈ l, (f x).length ≤ n) : (l.flatMap f).length ≤ l.length * n := by
  induction l with
  | nil => simp
  | cons x l ih =>
    have h1 := h x (by simp)
    have h2 := ih (fun y hy => h y (by simp [hy]))
    rw [List.flatMap_cons, List.length_append, List.length_cons, Nat.add_mul, Nat.one_mul]
    omega
theorem enL_len {α : Type} (f : α → List Nat) (l : List α) (n : Nat) (h : ∀ x ∈ l, (f x).length ≤ n) : (enL f l).length ≤ 10 + l.length * n := by
  unfold enL
  have := enc_length l.length
  have := flat_len f l n h
  rw [List.length_append]
  omega
theorem ptB_len (l : List (Int × Int)) (h : l.length ≤ 200) : (ptB l).length ≤ 2210 := by
  unfold ptB
  split
  · exact put_length l h
  · simp
theorem enMt_len (m : Mt) (h : VMt m) : (enMt m).length ≤ 3400 := by
  unfold enMt
  have a1 := enTx_len _ h.name
  have a2 := enL_len enTy m.params 31 (fun t ht => enTy_len t (h.params t ht))
  have a3 := enTy_len _ h.ret
  have a4 := enc_length m.lo.toNat
  have a5 := enc_length m.st.toNat
  have a6 := ptB_len m.code h.cl
  have a7 := enc_length (ptB m.code).length
  have a8 := enL_len enHd m.hands 50 (fun x _ => enHd_len x)
  have b1 := h.pl
  have b2 := h.hl
  simp only [List.length_append]
  have c1 : m.params.length * 31 ≤ 6 * 31 := Nat.mul_le_mul_right _ b1
  have c2 : m.hands.length * 50 ≤ 16 * 50 := Nat.mul_le_mul_right _ b2
  omega
theorem enCl_len (c : Cl) (h : VCl c) : (enCl c).length ≤ 50000 := by
  unfold enCl
  have a1 := enTx_len _ h.name
  have a2 := enTx_len _ h.super
  have a3 := enL_len enCs c.pool 61 (fun x hx => enCs_len x (h.pool x hx))
  have a4 := enL_len enFd c.fields 62 (fun x hx => enFd_len x (h.fields x hx))
  have a5 := enL_len enMt c.methods 3400 (fun x hx => enMt_len x (h.methods x hx))
  have c1 : c.pool.length * 61 ≤ 128 * 61 := Nat.mul_le_mul_right _ h.pl
  have c2 : c.fields.length * 62 ≤ 8 * 62 := Nat.mul_le_mul_right _ h.fl
  have c3 : c.methods.length * 3400 ≤ 12 * 3400 := Nat.mul_le_mul_right _ h.ml
  simp only [List.length_append, List.length_cons, List.length_nil]
  omega
end Go.Proofs.YthncdbobjeeeaaaGreatDoor
