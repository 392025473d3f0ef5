/- The document's watch: find. -/
import Derived.Test.YtnineggppoipiaaRd
namespace Go.Proofs.Ytnineggppoipiaa
open Go.ChangeShapes Go.WideShapes Go.ChangeAt Go.RowKit

theorem el_cells {α : Type} {K : El α} (hK : K.Ok) {w : World} {o : Option Addr} {n c : Nat} {l : List α} (h : OwnG K w (.slice o n c) l) {i : Nat} {x : α} (hx : l[i]? = some x) :
    ∃ b off, o = some ⟨b, off, none⟩ ∧ n = l.length ∧ ∀ (j : Nat) (u : Value), (K.f x)[j]? = some u → w.cell? ⟨b, off + i * K.n + j, none⟩ = some u := by
  rcases h with ⟨hn, rfl⟩ | ⟨g, o', cap', cur, he, hgg, hn, hm, hs, ht⟩
  · simp at hx
  · have h' : OwnG K w (.slice (some ⟨g, o', none⟩) l.length cap') l := .inr ⟨g, o', cap', cur, rfl, hgg, hn, hm, hs, ht⟩
    simp only [Value.slice.injEq] at he
    obtain ⟨rfl, rfl, rfl⟩ := he
    refine ⟨g, o', rfl, rfl, fun j u hj => ?_⟩
    have := h'.cells _ u (cg_get hK l i x hx j u hj)
    rw [← Nat.add_assoc] at this
    exact this

def hitK (a i : Int) (x : Kp) : Bool := decide (x.at_ = a) && decide (x.i = i)
def kAt (ks : List Kp) (a i : Int) : Nat := ks.findIdx (hitK a i)
def kAdd (ks : List Kp) (a i : Int) : List Kp := if kAt ks a i < ks.length then ks else ks ++ [⟨a, i, fun _ => 0⟩]
theorem kAt_hit {ks : List Kp} {a i : Int} {j : Nat} {x : Kp} (h : ∀ m y, m < j → ks[m]? = some y → hitK a i y = false) (hx : ks[j]? = some x) (hh : hitK a i x = true) : kAt ks a i = j := by
  obtain ⟨hlt, e⟩ := List.getElem?_eq_some_iff.1 hx
  refine (List.findIdx_eq hlt).2 ⟨by rw [e]; exact hh, fun m hm => h m _ hm (List.getElem?_eq_getElem (by omega))⟩
theorem kAt_none {ks : List Kp} {a i : Int} (h : ∀ m y, m < ks.length → ks[m]? = some y → hitK a i y = false) : kAt ks a i = ks.length := by
  refine List.findIdx_eq_length.2 fun x hx => ?_
  obtain ⟨m, hm, e⟩ := List.mem_iff_getElem.1 hx
  exact h m x hm (by rw [List.getElem?_eq_getElem hm, e])

theorem alloc_cell {w : World} {x : Addr} {v : Value} (h : w.cell? x = some v) (cs : Array Value) (t : TypeId) : (w.alloc (.cells cs t)).cell? x = some v := ((Fr.refl no w).alloc cs t).cell h (fun f => f)
theorem own_apart {α β : Type} {K : El α} {M : El β} {w : World} {v u : Value} {l : List α} {m : List β} (h : OwnG K w v l) (h2 : OwnG M w u m) (hKM : K.e ≠ M.e) : ∀ k, u.ownBlock = some k → ¬ v.ownBlock = some k := by
  intro k hk e
  rcases h with ⟨rfl, rfl⟩ | ⟨g, o, cap, cur, rfl, hg, _⟩
  · simp [Value.ownBlock] at e
  · simp only [Value.ownBlock, Option.some.injEq] at e
    subst e
    exact own_blk h2 hg (fun e => hKM e.symm) _ hk rfl
/-- The row of clocks is written, behind what turned its own block alone. -/
theorem RW.setKept {S : Nat → Prop} {w w' : World} {p : Nat} {T : Wt} {ks ks' : List Kp} {as' : List Ac} {n : Int} (h : RW w p T ks as' n) (f : Fr S w w') (hp : ¬ S p) (ha : ∀ lv, OwnG elA w lv as' → ∀ k, lv.ownBlock = some k → ¬ S k) {v : Value} (ho : OwnG elP w' v ks') (hv : ∀ b, v.ownBlock = some b → T.c ≤ b) :
    RW (w'.setCell ⟨p, 351, none⟩ v) p T ks' as' n where
  row := row_set [_] _ w' (by
    obtain ⟨cs, h3, h4⟩ := h.row
    exact ⟨cs, f.heap h3 hp, h4⟩)
  now_ := fun t' ht' => range_set_out (rangeAt_fr (h.now_ t' ht') f hp) (by rw [ckL_len]; omega)
  fin_ := fun t' ht' => range_set_out (rangeAt_fr (h.fin_ t' ht') f hp) (by rw [ckL_len]; omega)
  end_ := fun t' ht' => by rw [cell_set_out (by omega)]; exact f.cell (h.end_ t' ht') hp
  kept := by
    obtain ⟨kv, h1, h2⟩ := h.kept
    obtain ⟨cs, h3, _⟩ := h.row
    exact ⟨v, cell_set_in (by rw [f.cell h1 hp]; rfl), ho.kept (fr_set w' p _ _) (own_blk ho (f.heap h3 hp) (by decide))⟩
  acc := by
    obtain ⟨kv, h1, h2⟩ := h.acc
    obtain ⟨cs, h3, _⟩ := h.row
    have h4 := h2.kept f (ha _ h2)
    exact ⟨kv, by rw [cell_set_out (by omega)]; exact f.cell h1 hp, h4.kept (fr_set w' p _ _) (own_blk h4 (f.heap h3 hp) (by decide))⟩
  races := by rw [cell_set_out (by omega)]; exact f.cell h.races hp
  low := h.low
  keptLow := fun kv hk => by
    obtain ⟨u, h1, -⟩ := h.kept
    rw [cell_set_in (by rw [f.cell h1 hp]; rfl)] at hk
    cases hk
    exact hv
  accLow := fun kv hk => by
    obtain ⟨u, h1, -⟩ := h.acc
    rw [cell_set_out (by omega), f.cell h1 hp] at hk
    cases hk
    exact h.accLow _ h1

/-- What may turn, told by kinds: blocks from c on of these types. -/
def Tk (ts : List TypeId) (c : Nat) (w : World) (k : Nat) : Prop := c ≤ k ∧ ∃ cur t, w.heap[k]? = some (.cells cur t (0, 0)) ∧ t ∈ ts

theorem Fr.tk {ts : List TypeId} {c : Nat} {a b d : World} (h : Fr (Tk ts c a) a b) (k : Fr (Tk ts c b) b d) : Fr (Tk ts c a) a d :=
  h.trans k (fun _ _ f => f) (fun i hi f => by
    by_cases g : Tk ts c a i
    · exact g
    · have e := h.block i hi g
      unfold Tk at f ⊢
      rw [e] at f
      exact f)

theorem Fr.tab {ts : List TypeId} {W w w' : World} (h : Fr no W w) (k : Fr (Tk ts W.heap.size w) w w') : Fr no W w' :=
  h.new k (fun i hi f => by have := f.1; omega)

theorem OwnG.tk {α : Type} {K : El α} {ts : List TypeId} {c : Nat} {w w' : World} {v : Value} {l : List α} (h : OwnG K w v l) (hf : Fr (Tk ts c w) w w') (hn : K.e ∉ ts) : OwnG K w' v l :=
  h.kept hf (fun k hk f => by
    obtain ⟨cur, hc⟩ := h.tag hk
    obtain ⟨_, cur', t, h1, h2⟩ := f
    rw [hc] at h1
    simp only [Option.some.injEq, Obj.cells.injEq] at h1
    exact hn (h1.2.1 ▸ h2))

theorem Fr.box {ts : List TypeId} {c : Nat} {w w' : World} (hf : Fr (Tk ts c w) w w') {k : Nat} {cur : Array Value} {t : TypeId} (h : w.heap[k]? = some (.cells cur t (0, 0))) (hn : t ∉ ts) : w'.heap[k]? = some (.cells cur t (0, 0)) :=
  hf.heap h (fun f => by
    obtain ⟨_, cur', t', h1, h2⟩ := f
    rw [h] at h1
    simp only [Option.some.injEq, Obj.cells.injEq] at h1
    exact hn (h1.2.1 ▸ h2))

/-- The watch's own blocks. -/
abbrev TD (c : Nat) : World → Nat → Prop := Tk [42, 70, 73] c
theorem RW.td {w w' : World} {p : Nat} {T : Wt} {ks : List Kp} {as' : List Ac} {n : Int} (h : RW w p T ks as' n) (f : Fr (Bk p) w w') : Fr (TD T.c w) w w' := f.mono fun i _ e => by
  obtain ⟨cs, h1, _⟩ := h.row
  unfold Bk at e
  subst e
  exact ⟨h.low, cs, 42, h1, by simp⟩
theorem own_td {α : Type} {K : El α} {w : World} {v : Value} {l : List α} (h : OwnG K w v l) (hK : K.e = 70 ∨ K.e = 73) {c : Nat} (hc : ∀ b, v.ownBlock = some b → c ≤ b) : ∀ k, v.ownBlock = some k → TD c w k := by
  intro k hk
  rcases h with ⟨rfl, rfl⟩ | ⟨g, o, cap, cur, rfl, hg, _⟩
  · simp [Value.ownBlock] at hk
  · simp only [Value.ownBlock, Option.some.injEq] at hk
    subst hk
    exact ⟨hc _ rfl, cur, K.e, hg, by rcases hK with h | h <;> simp [h]⟩
/-- What an append of clocks leaves. -/
theorem app_kept {w w1 w3 : World} {p : Nat} {T : Wt} {ks ks' : List Kp} {as' : List Ac} {n : Int} {v v' : Value} (h : RW w p T ks as' n) (ho : OwnG elP w v ks) (hck : w.cell? ⟨p, 351, none⟩ = some v) (f1 : Fr no w w1) (o3 : OwnG elP w3 v' ks') (s3 : Sp v w1 v' w3) :
    ∃ o4 c4, v' = .slice o4 ks'.length c4 ∧ w3.cell? ⟨p, 351, none⟩ = some v ∧ (∀ o, w3.frozen? ⟨p, o, none⟩ = false) ∧ RW (w3.setCell ⟨p, 351, none⟩ (.slice o4 ks'.length c4)) p T ks' as' n ∧ Fr (TD T.c w) w (w3.setCell ⟨p, 351, none⟩ (.slice o4 ks'.length c4)) := by
  obtain ⟨o4, c4, rfl⟩ := o3.form
  have F3 : Fr (fun k => v.ownBlock = some k) w w3 := (f1.up (S := fun k => v.ownBlock = some k)).trans s3.1 (fun _ _ x => x) (fun _ _ x => x)
  obtain ⟨cs, h3, _⟩ := h.row
  have hpn : ¬ v.ownBlock = some p := fun e => own_blk ho h3 (by decide) p e rfl
  have hL := h.keptLow _ hck
  have hV : ∀ b, (Value.slice o4 ks'.length c4).ownBlock = some b → T.c ≤ b := fun b hb => by
    by_cases hlt : b < w1.heap.size
    · exact hL b (s3.2 b hlt hb)
    · have := h.lt
      have := h.low
      have := f1.size
      omega
  have R := h.setKept F3 hpn (fun lv hl => own_apart ho hl (by decide)) o3 hV
  refine ⟨o4, c4, rfl, F3.cell hck hpn, fun o => (F3.frozen ⟨p, o, none⟩ h.lt).trans (h.frz o), R, ?_⟩
  have F4 : Fr (TD T.c w) w w3 := F3.mono fun i _ e => own_td ho (.inl rfl) hL i e
  have h5 := F3.heap h3 hpn
  exact F4.tk ((fr_set w3 p 351 _).mono fun i _ e => by unfold Bk at e; subst e; exact ⟨h.low, cs, 42, h5, by simp⟩)

set_option maxRecDepth 100000 in
set_option maxHeartbeats 1000000 in
theorem find_any (w : World) (p : Nat) (T : Wt) (ks : List Kp) (as' : List Ac) (n : Int) (h : RW w p T ks as' n) (hk : ks.length ≤ 1000) (a i : Int) :
    Calls Try.prog 40 #[.pointer (some ⟨p, 0, none⟩), .int .i64 a, .int .i64 i] w fun e w' => e = .returned (.int .i64 (kAt ks a i : Nat)) ∧ RW w' p T (kAdd ks a i) as' n ∧ Fr (TD T.c w) w w' := by
  obtain ⟨kv, ck, hO⟩ := h.kept
  obtain ⟨oo, cc, rfl⟩ := hO.form
  have H : Hid _ := h
  have HO : Hid (OwnG elP w (.slice oo ks.length cc) ks) := hO
  have fz := h.frz
  have HP : Hid _ := h.lt
  clear h hO
  generalize hR : kAt ks a i = R
  have HR : Hid (kAt ks a i = R) := hR
  generalize hS : kAdd ks a i = S
  have HS : Hid (kAdd ks a i = S) := hS
  clear hR hS
  go_enter Try.func40, Try.ntmps40
  go_wp2_with fail
  go_loopw [7] (fun iv wr => wr = w ∧ ∃ j : Nat, iv = .int .i64 (j : Int) ∧ j ≤ ks.length ∧ Hid (∀ m y, m < j → ks[m]? = some y → hitK a i y = false)) (fun iv _ => ks.length - (intOf iv).toNat)
  case atStart => exact ⟨rfl, 0, rfl, Nat.zero_le _, fun m y hm => by omega⟩
  case round =>
    obtain ⟨hwr, j, rfl, hj, HJ⟩ := hrel
    subst hwr
    have hj0 : (0 : Int) ≤ (j : Int) := by omega
    by_cases hlt : j < ks.length
    · have hlt' : (j : Int) < (ks.length : Int) := by omega
      obtain ⟨x, hx⟩ : ∃ x, ks[j]? = some x := ⟨_, List.getElem?_eq_getElem hlt⟩
      obtain ⟨g, off, rfl, -, hc⟩ := el_cells elP_ok HO.out hx
      have c0 := hc 0 _ rfl
      have c1 := hc 1 _ rfl
      rw [Nat.add_zero] at c0
      have e15 : elP.n = 15 := rfl
      rw [e15] at c0 c1
      have HX : Hid _ := hx
      clear hc hx e15
      by_cases h1 : x.at_ = a
      · have e1 : (x.at_ == a) = true := by simp [h1]
        by_cases h2 : x.i = i
        · have e2 : (x.i == i) = true := by simp [h2]
          have hh : hitK a i x = true := by unfold hitK; rw [decide_eq_true h1, decide_eq_true h2]; rfl
          have hR := kAt_hit HJ.out HX.out hh
          rw [HR.out] at hR
          subst hR
          have HSS : Hid (S = ks) := by rw [Hid, ← HS.out]; unfold kAdd; rw [HR.out, if_pos hlt]
          clear h1 h2 hh
          go_wp2_with fail
          go_ret
          exact ⟨rfl, by rw [HSS.out]; exact H.out, Fr.refl _ _⟩
        · have e2 : (x.i == i) = false := by simp [h2]
          have HJ2 : Hid (∀ m y, m < j + 1 → ks[m]? = some y → hitK a i y = false) := fun m y hm hy => by
            rcases Nat.lt_succ_iff_lt_or_eq.1 hm with h | rfl
            · exact HJ.out m y h hy
            · rw [HX.out] at hy
              simp only [Option.some.injEq] at hy
              subst hy
              unfold hitK
              rw [decide_eq_false h2, Bool.and_false]
          clear h1 h2
          go_wp2_with fail
          go_roundw
          case rel => exact ⟨trivial, j + 1, by congr 1, by omega, HJ2⟩
          case measure => simp [intOf]; omega
      · have e1 : (x.at_ == a) = false := by simp [h1]
        have HJ2 : Hid (∀ m y, m < j + 1 → ks[m]? = some y → hitK a i y = false) := fun m y hm hy => by
          rcases Nat.lt_succ_iff_lt_or_eq.1 hm with h | rfl
          · exact HJ.out m y h hy
          · rw [HX.out] at hy
            simp only [Option.some.injEq] at hy
            subst hy
            unfold hitK
            rw [decide_eq_false h1, Bool.false_and]
        clear h1
        go_wp2_with fail
        go_roundw
        case rel => exact ⟨trivial, j + 1, by congr 1, by omega, HJ2⟩
        case measure => simp [intOf]; omega
    · obtain rfl : j = ks.length := by omega
      have hR : R = ks.length := HR.out.symm.trans (kAt_none fun m y hm hy => HJ.out m y hm hy)
      subst hR
      have HSS : Hid (S = ks ++ [⟨a, i, fun _ => 0⟩]) := by rw [Hid, ← HS.out]; unfold kAdd; rw [HR.out, if_neg (Nat.lt_irrefl _)]
      have ck2 := alloc_cell ck (elP.f ⟨a, i, fun _ => 0⟩).toArray 70
      have HO1 : Hid (OwnG elP (wr.alloc (.cells (elP.f ⟨a, i, fun _ => 0⟩).toArray elP.e)) (.slice oo ks.length cc) ks) := OwnG.keep HO.out ((Fr.refl no _).alloc _ _)
      go_wp2_with (at_builtin; refine wpList_apdG elP_ok _ rfl rfl _ _ rfl (.slice oo ks.length cc) ks rfl HO1.out _ rfl [⟨a, i, fun _ => 0⟩] (srcG_one elP_ok wr ⟨a, i, fun _ => 0⟩) (by simp; omega) ?_; intro v' w3 o3 s3; obtain ⟨o4, c4, rfl, ck3, fz3, R3, F3⟩ := app_kept H.out HO.out ck ((Fr.refl no wr).alloc _ _) o3 s3; have HW3 : Hid (_ ∧ _) := ⟨R3, F3⟩; clear o3 s3 R3 F3)
      go_ret
      have e : (ks ++ [(⟨a, i, fun _ => 0⟩ : Kp)]).length = ks.length + 1 := by simp
      rw [e] at HW3
      exact ⟨rfl, by rw [HSS.out]; exact HW3.out.1, HW3.out.2⟩
end Go.Proofs.Ytnineggppoipiaa
