/- Both watches in memory; whether two clocks are the same. -/
import Derived.Test.YtnineggppoipiaaSn
import Derived.Test.YtnineggppoipiaaKr
namespace Go.Proofs.Ytnineggppoipiaa
open Go.ChangeShapes Go.WideShapes Go.ChangeAt Go.RowKit

theorem tw_no {w : World} {k : Nat} {cs : Array Value} {t : TypeId} (h : w.heap[k]? = some (.cells cs t (0, 0))) (ht : t ≠ 58) {c : Nat} : ¬ TW c w k := by
  rintro ⟨-, ⟨es, cl, e⟩ | ⟨cur, e⟩⟩
  · rw [h] at e
    simp at e
  · rw [h] at e
    simp only [Option.some.injEq, Obj.cells.injEq] at e
    exact ht e.2.1
theorem Fr.boxT {c : Nat} {w w' : World} (f : Fr (TW c w) w w') {k : Nat} {cs : Array Value} {t : TypeId} (h : w.heap[k]? = some (.cells cs t (0, 0))) (ht : t ≠ 58) : w'.heap[k]? = some (.cells cs t (0, 0)) := f.heap h (tw_no h ht)
theorem own_tw {α : Type} {K : El α} {w : World} {v : Value} {l : List α} (h : OwnG K w v l) (hK : K.e ≠ 58) {c : Nat} : ∀ k, v.ownBlock = some k → ¬ TW c w k := by
  intro k hk
  rcases h with ⟨rfl, rfl⟩ | ⟨g, o, cap, cur, rfl, hg, _⟩
  · simp [Value.ownBlock] at hk
  · simp only [Value.ownBlock, Option.some.injEq] at hk
    subst hk
    exact tw_no hg hK
theorem RW.tw {w w' : World} {p d : Nat} {T : Wt} {ks : List Kp} {as' : List Ac} {n : Int} (h : RW w p T ks as' n) (f : Fr (TW d w) w w') : RW w' p T ks as' n := by
  have hp : ¬ TW d w p := by
    obtain ⟨cs, h1, -⟩ := h.row
    exact tw_no h1 (by decide)
  refine ⟨?_, fun t ht => rangeAt_fr (h.now_ t ht) f hp, fun t ht => rangeAt_fr (h.fin_ t ht) f hp, fun t ht => f.cell (h.end_ t ht) hp, ?_, ?_, f.cell h.races hp, h.low, fun kv hk => ?_, fun kv hk => ?_⟩
  · obtain ⟨cs, h1, h2⟩ := h.row
    exact ⟨cs, f.heap h1 hp, h2⟩
  · obtain ⟨kv, h1, h2⟩ := h.kept
    exact ⟨kv, f.cell h1 hp, h2.kept f (own_tw h2 (by decide))⟩
  · obtain ⟨kv, h1, h2⟩ := h.acc
    exact ⟨kv, f.cell h1 hp, h2.kept f (own_tw h2 (by decide))⟩
  · obtain ⟨v, h1, -⟩ := h.kept
    rw [f.cell h1 hp] at hk
    cases hk
    exact h.keptLow _ h1
  · obtain ⟨v, h1, -⟩ := h.acc
    rw [f.cell h1 hp] at hk
    cases hk
    exact h.accLow _ h1
theorem DW.tw {w w' : World} {c d q k : Nat} {D : Dw} (h : DW c w q D k) (f : Fr (TW d w) w w') : DW c w' q D k := ⟨h.cc, h.rw.tw f, h.b, h.bk, h.lk, h.la, h.n0⟩
theorem PS.td {w w' : World} {c d p k : Nat} {F : Cm} {n : Int} (h : PS c w p F n k) (f : Fr (TD d w) w w') : PS c w' p F n k := by
  refine ⟨h.pw.kept f ?_ ?_, h.b, h.k1, h.n0⟩
  · obtain ⟨v, h1, -⟩ := h.pw.row
    rintro ⟨-, cs, t, e, ht⟩
    rw [h1] at e
    simp only [Option.some.injEq, Obj.cells.injEq] at e
    rw [← e.2.1] at ht
    revert ht
    decide
  · rintro m es cl h1 ⟨-, cs, t, e, ht⟩
    rw [h1] at e
    simp at e

/-- Both watches. -/
structure Both (w0 w : World) (p q : Nat) (F : Cm) (D : Dw) (k : Nat) : Prop where
  ps : PS w0.heap.size w p F D.n k
  ds : DW w0.heap.size w q D k
  sim : Sim F D
  fr : Fr no w0 w
section
variable {w0 w w' : World} {p q k : Nat} {F : Cm} {D : Dw}
theorem Both.keep (h : Both w0 w p q F D k) (f : Fr no w w') : Both w0 w' p q F D k := ⟨h.ps.keep f, h.ds.keep f, h.sim, h.fr.and f⟩
theorem Both.up {m : Nat} (h : Both w0 w p q F D k) (hm : k ≤ m) : Both w0 w p q F D m := ⟨h.ps.up hm, h.ds.up hm, h.sim, h.fr⟩
theorem Both.bp (h : Both w0 w p q F D k) (hk : k ≤ 400) : BP F 1000000 := h.ps.b.mono (by omega)
/-- Behind a call of the program's. -/
theorem Both.mid (h : Both w0 w p q F D k) {w1 : World} (f : Fr (TW w0.heap.size w) w w1) : DW w0.heap.size w1 q D k ∧ Fr no w0 w1 := ⟨h.ds.tw f, fr_tw h.fr (Nat.le_refl _) f⟩
theorem fr_td {w w1 w2 : World} {c : Nat} (h : Fr no w w1) (hc : w.heap.size ≤ c) (f : Fr (TD c w1) w1 w2) : Fr no w w2 := h.new f (fun i hi e => by have := e.1; omega)
end

theorem LsC.keep {w w' : World} {v : Value} {c : Nat → Int} (h : LsC w v c) (f : Fr no w w') : LsC w' v c := by
  obtain ⟨b, h1, h2⟩ := h
  exact ⟨b, h1, f.heap h2 (fun x => x)⟩

set_option maxRecDepth 100000 in
set_option maxHeartbeats 1000000 in
theorem same_any (w : World) (v : Value) (c : Nat → Int) (h : LsC w v c) : Calls Try.prog 26 #[v, ckV c] w fun e w' => e = .returned (.bool true) ∧ Fr no w w' := by
  obtain ⟨W, b3, eW, e3, H3, F0⟩ := box1 w (ckL c).toArray 36
  obtain ⟨b, rfl, hb⟩ := h.keep F0
  have HI : Hid (_ ∧ _ ∧ _) := ⟨H3, hb, F0⟩
  have H0 : Hid (_ ∧ _) := ⟨eW, e3⟩
  have nb2 : ∀ b : Int, (b != b) = false := fun b => by simp
  clear eW e3 H3 hb F0 h
  unfold ckV
  go_enter Try.func26, Try.ntmps26
  go_upto_region 1 with fail
  rw [H0.out.1, H0.out.2]
  clear H0
  go_wp2_with fail
  go_loopw [5] (fun iv wr => ∃ (k m : Nat), iv = .int .i64 (k : Int) ∧ k ≤ 13 ∧ Hid (wr = W.drewN m)) (fun iv _ => 13 - (intOf iv).toNat)
  case atStart => exact ⟨0, 0, rfl, by omega, rfl⟩
  case round =>
    obtain ⟨k, m, rfl, hk, HR⟩ := hrel
    have hk0 : (0 : Int) ≤ (k : Int) := by omega
    by_cases hlt : k < 13
    · have hlt' : (k : Int) < 13 := by omega
      have c1 : wr.cell? ⟨b, k, none⟩ = some (.int .i64 (c k)) := by rw [HR.out]; exact row_cell HI.out.2.1 hlt
      have c2 : wr.cell? ⟨b3, k, none⟩ = some (.int .i64 (c k)) := by rw [HR.out]; exact row_cell HI.out.1 hlt
      go_wp2_with fail
      go_quiet (fail)
      generalize hwq : World.drewN wr nq = wq
      have HQ : Hid (wq = W.drewN (m + nq)) := by rw [Hid, ← hwq, HR.out]; simp
      clear hwq c1 c2
      go_wp2_with fail
      go_roundw
      case rel => exact ⟨k + 1, m + nq, by go_num, by omega, HQ.out⟩
      case measure => simp [intOf]; omega
    · obtain rfl : k = 13 := by omega
      go_wp2_with fail
      go_ret
      exact ⟨rfl, by rw [HR.out]; exact HI.out.2.2.drewN _⟩
end Go.Proofs.Ytnineggppoipiaa
