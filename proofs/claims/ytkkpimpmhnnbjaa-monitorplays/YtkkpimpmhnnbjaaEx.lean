/- Exit. -/
import Derived.Test.YtkkpimpmhnnbjaaEo
namespace Go.Proofs.Ytkkpimpmhnnbjaa
open Go.ChangeShapes Go.WideShapes Go.ChangeAt Go.RowKit

def exitP (a t : Int) (S : Int → Option Lk) (N : Int → Int) : Ans Int :=
  match ownP S a t with
  | none => ⟨0, 130, S, N⟩
  | some x => if 1 < x.count then ⟨0, 0, upd S a (some { x with count := x.count - 1 }), N⟩ else ⟨handR x, 0, handS S a x, handN N x⟩

theorem hand_pre {n : Nat} {S : Int → Option Lk} {N : Int → Int} (hB : Bd n S N) (hn : n ≤ 800000) {x : Lk} {m : Nat} (hx : LkOk m x) : ∀ e ∈ x.entry, In e.1 ∧ In (N e.1 - 1) := fun e he => by
  have := hB.std e.1
  exact ⟨(hx.ent e he).1, by unfold In; omega⟩

set_option maxRecDepth 100000 in
theorem exit_any {c : Nat} {w : World} {p n : Nat} {S : Int → Option Lk} {N : Int → Int} (h : TB c w p n S N) (hB : Bd n S N) (hn : n ≤ 800000) (a t : Int) (ha : In a) :
    Calls Try.prog 12 #[.pointer (some ⟨p, 0, none⟩), .int .i64 a, .int .i64 t] w fun e w' => e = .returned (.tuple #[.int .i64 (exitP a t S N).r, .int .i64 (exitP a t S N).err]) ∧ TB c w' p (n + 2) (exitP a t S N).S (exitP a t S N).N ∧ Fr (Tm c w) w w' := by
  have e1 := eq_nil
  have e2 := eq_ptr
  unfold exitP
  cases ho : ownP S a t with
  | none =>
    have OW := owned_no h a t ha ho
    have HT : Hid (TB c w p (n + 2) S N) := h.mono (by omega)
    clear h ho hB
    go_enter Try.func12, Try.ntmps12
    go_wp2_with fail
    refine OW.mono ?_
    rintro _ w1 ⟨rfl, rfl⟩
    go_wp2_with fail
    go_ret2
    exact ⟨rfl, HT.out, Fr.refl _ _⟩
  | some x =>
    obtain ⟨m1, m2, F, y, t1, hy, OW⟩ := owned_yes h a t ha x ho
    obtain ⟨hx, -, -⟩ := ownP_some ho
    obtain ⟨x2, hx2, _, hq1, _⟩ := t1.lay hy
    rw [hx] at hx2
    obtain rfl := Option.some.inj hx2
    obtain ⟨-, d1, -, -, -⟩ := cells5 hq1
    have z1 := thaw hq1 1
    have hok := hB.lk a x hx
    have hcn := hok.cnt
    simp only []
    by_cases hc : 1 < x.count
    · rw [if_pos hc]
      have hwr : IntKind.i64.wrap (x.count - 1) = x.count - 1 := by
        rw [IntKind.wrap_i64]
        omega
      have HT : Hid (TB c (w.setCell ⟨y.q, 1, none⟩ (.int .i64 (x.count - 1))) p (n + 2) (upd S a (some { x with count := x.count - 1 })) N ∧ Fr (Tm c w) w (w.setCell ⟨y.q, 1, none⟩ (.int .i64 (x.count - 1)))) := by
        obtain ⟨t2, f2⟩ := t1.turn hy hx { x with count := x.count - 1 } (fr_set w y.q 1 (.int .i64 (x.count - 1))) (set1 hq1) rfl rfl
        exact ⟨.inr ⟨m1, m2, F, t2.mono (by omega)⟩, f2⟩
      clear h hB t1 hq1 hx ho hok hx2
      go_enter Try.func12, Try.ntmps12
      go_wp2_with fail
      refine OW.mono ?_
      rintro _ w1 ⟨rfl, rfl⟩
      go_wp2_with fail
      go_ret2
      exact ⟨rfl, HT.out⟩
    · rw [if_neg hc]
      have HO := hand_any t1 (by omega) a ha y hy x hx (hand_pre hB hn hok)
      clear h hB t1 hq1 hx ho hok hx2
      go_enter Try.func12, Try.ntmps12
      go_wp2_with fail
      refine OW.mono ?_
      rintro _ w1 ⟨rfl, rfl⟩
      go_wp2_with fail
      refine HO.mono ?_
      rintro _ w2 ⟨rfl, t2, f2⟩
      have HT : Hid (TB c w2 p (n + 2) (handS S a x) (handN N x) ∧ Fr (Tm c w1) w1 w2) := ⟨t2.mono (by omega), f2⟩
      clear t2 f2 HO OW
      go_wp2_with fail
      go_ret2
      exact ⟨rfl, HT.out⟩

theorem handS_upd {S : Int → Option Lk} {a : Int} {x : Lk} (o : Option Lk) : handS (upd S a o) a x = handS S a x := by
  unfold handS
  split <;> rw [upd_upd]

theorem hand_bd {n : Nat} {S : Int → Option Lk} {N : Int → Int} (hB : Bd n S N) (a : Int) {x : Lk} (hx : LkOk (n + 1) x) : Bd (n + 1) (handS S a x) (handN N x) := by
  have hB1 := hB.mono (n' := n + 1) (by omega)
  cases hn : x.entry with
  | nil =>
    have e : handN N x = N := by unfold handN; rw [hn]
    rw [e, handS_nil hn]
    refine hB1.put a (fun x' hx' => ?_)
    split at hx'
    · obtain rfl := Option.some.inj hx'
      exact ⟨⟨by show (-9223372036854775808 : Int) ≤ 0; decide, by show (0 : Int) ≤ 9223372036854775807; decide⟩, ⟨by show (0 : Int) ≤ 0; decide, by show (0 : Int) ≤ _; omega⟩, hx.len, hx.ent, hx.wai⟩
    · simp at hx'
  | cons e r =>
    have he := hx.ent e (by rw [hn]; exact List.mem_cons_self)
    have hl := hx.len
    rw [hn] at hl
    have e1 : handN N x = upd N e.1 (N e.1 - 1) := by unfold handN; rw [hn]
    have hs := hB.std e.1
    rw [e1, handS_cons hn]
    refine (hB1.put a (fun x' hx' => ?_)).num e.1 (by omega)
    obtain rfl := Option.some.inj hx'
    refine ⟨he.1, he.2, ?_, fun z hz => hx.ent z (by rw [hn]; exact List.mem_cons_of_mem _ hz), hx.wai⟩
    simp only [List.length_cons] at hl
    show r.length + x.wait.length ≤ _
    omega

theorem exit_bd {n : Nat} {S : Int → Option Lk} {N : Int → Int} (hB : Bd n S N) (a t : Int) : Bd (n + 2) (exitP a t S N).S (exitP a t S N).N := by
  unfold exitP
  cases ho : ownP S a t with
  | none => exact hB.mono (by omega)
  | some x =>
    have hx := hB.lk a x (ownP_some ho).1
    simp only []
    split
    · refine (hB.mono (n' := n + 2) (by omega)).put a (fun x' hx' => ?_)
      obtain rfl := Option.some.inj hx'
      have h2 := hx.mono (n' := n + 2) (by omega)
      have := h2.cnt
      exact ⟨h2.own, ⟨by show 0 ≤ x.count - 1; omega, by show x.count - 1 ≤ _; omega⟩, h2.len, h2.ent, h2.wai⟩
    · exact (hand_bd hB a (hx.mono (by omega))).mono (by omega)
end Go.Proofs.Ytkkpimpmhnnbjaa
