/- A table beside the world in which it was begun; the example. -/
import Derived.Test.YtkkpimpmhnnbjaaNo
import Derived.Test.YtkkpimpmhnnbjaaLk
namespace Go.Proofs.Ytkkpimpmhnnbjaa
open Go.ChangeShapes Go.WideShapes Go.ChangeAt Go.RowKit

/-- What a table is, all told. -/
structure St where
  S : Int → Option Lk
  N : Int → Int

def st0 : St := ⟨fun _ => none, fun _ => 0⟩

def St.lk (s : St) (a : Int) : Lk := (s.S a).getD lk0

def enS (a t : Int) (s : St) : St := ⟨(enterP a t s.S s.N).S, (enterP a t s.S s.N).N⟩
def enR (a t : Int) (s : St) : Bool := (enterP a t s.S s.N).r
def enE (a t : Int) (s : St) : Int := (enterP a t s.S s.N).err
def exS (a t : Int) (s : St) : St := ⟨(exitP a t s.S s.N).S, (exitP a t s.S s.N).N⟩
def exR (a t : Int) (s : St) : Int := (exitP a t s.S s.N).r
def exE (a t : Int) (s : St) : Int := (exitP a t s.S s.N).err
def waS (a t : Int) (s : St) : St := ⟨(waitP a t s.S s.N).S, (waitP a t s.S s.N).N⟩
def waR (a t : Int) (s : St) : Int := (waitP a t s.S s.N).r
def waE (a t : Int) (s : St) : Int := (waitP a t s.S s.N).err
def noS (a t : Int) (b : Bool) (s : St) : St := ⟨(notifyP a t b s.S s.N).S, (notifyP a t b s.S s.N).N⟩
def noR (a t : Int) (b : Bool) (s : St) : Int := (notifyP a t b s.S s.N).r
def noE (a t : Int) (b : Bool) (s : St) : Int := (notifyP a t b s.S s.N).err
def foS (a : Int) (s : St) : St := ⟨(forgetP a s.S s.N).S, (forgetP a s.S s.N).N⟩
def foE (a : Int) (s : St) : Int := (forgetP a s.S s.N).err

/-- In w block p holds a table that is s; all that was in W is as it was. -/
structure Jt (W w : World) (p n : Nat) (s : St) : Prop where
  tb : TB W.heap.size w p n s.S s.N
  bd : Bd n s.S s.N
  fr : Fr no W w

theorem Fr.tab {W w w' : World} (h : Fr no W w) (k : Fr (Tm W.heap.size w) w w') : Fr no W w' :=
  h.new k (fun i hi f => by have := f.1; omega)

section
variable {W w : World} {p n : Nat} {s : St}

theorem Jt.keep {w' : World} (h : Jt W w p n s) (f : Fr no w w') : Jt W w' p n s := ⟨h.tb.keep f, h.bd, h.fr.and f⟩
theorem Jt.mono {n' : Nat} (h : Jt W w p n s) (hn : n ≤ n') : Jt W w p n' s := ⟨h.tb.mono hn, h.bd.mono hn, h.fr⟩

theorem jNew (W w : World) (f : Fr no W w) : Calls Try.prog 9 #[] w fun e w' => ∃ p, e = .returned (.pointer (some ⟨p, 0, none⟩)) ∧ Jt W w' p 0 st0 ∧ Fr no w w' :=
  (new_any w W.heap.size f.size).mono fun _ _ ⟨p, he, _, h, k⟩ => ⟨p, he, ⟨h, Bd.none 0, f.and k⟩, k⟩

theorem Jt.enter (h : Jt W w p n s) (hn : n ≤ 700000) (a t : Int) (ha : In a) (ht : In t) : Calls Try.prog 10 #[.pointer (some ⟨p, 0, none⟩), .int .i64 a, .int .i64 t] w fun e w' => e = .returned (.tuple #[.bool (enR a t s), .int .i64 (enE a t s)]) ∧ Jt W w' p (n + 2) (enS a t s) ∧ Fr (Tm W.heap.size w) w w' :=
  (enter_any h.tb h.bd (by omega) a t ha ht).mono fun _ _ ⟨he, k, f⟩ => ⟨he, ⟨k, enter_bd h.bd a t ht, h.fr.tab f⟩, f⟩
theorem Jt.exit (h : Jt W w p n s) (hn : n ≤ 700000) (a t : Int) (ha : In a) : Calls Try.prog 12 #[.pointer (some ⟨p, 0, none⟩), .int .i64 a, .int .i64 t] w fun e w' => e = .returned (.tuple #[.int .i64 (exR a t s), .int .i64 (exE a t s)]) ∧ Jt W w' p (n + 2) (exS a t s) ∧ Fr (Tm W.heap.size w) w w' :=
  (exit_any h.tb h.bd (by omega) a t ha).mono fun _ _ ⟨he, k, f⟩ => ⟨he, ⟨k, exit_bd h.bd a t, h.fr.tab f⟩, f⟩
theorem Jt.wait (h : Jt W w p n s) (hn : n ≤ 700000) (a t : Int) (ha : In a) (ht : In t) : Calls Try.prog 14 #[.pointer (some ⟨p, 0, none⟩), .int .i64 a, .int .i64 t] w fun e w' => e = .returned (.tuple #[.int .i64 (waR a t s), .int .i64 (waE a t s)]) ∧ Jt W w' p (n + 2) (waS a t s) ∧ Fr (Tm W.heap.size w) w w' :=
  (wait_any h.tb h.bd (by omega) a t ha ht).mono fun _ _ ⟨he, k, f⟩ => ⟨he, ⟨k, wait_bd h.bd a t ht, h.fr.tab f⟩, f⟩
theorem Jt.notify (h : Jt W w p n s) (hn : n ≤ 700000) (a t : Int) (b : Bool) (ha : In a) : Calls Try.prog 16 #[.pointer (some ⟨p, 0, none⟩), .int .i64 a, .int .i64 t, .bool b] w fun e w' => e = .returned (.tuple #[.int .i64 (noR a t b s), .int .i64 (noE a t b s)]) ∧ Jt W w' p (n + 2) (noS a t b s) ∧ Fr (Tm W.heap.size w) w w' :=
  (notify_any h.tb h.bd (by omega) a t b ha).mono fun _ _ ⟨he, k, f⟩ => ⟨he, ⟨k, notify_bd h.bd a t b, h.fr.tab f⟩, f⟩
theorem Jt.forget (h : Jt W w p n s) (a : Int) (ha : In a) : Calls Try.prog 18 #[.pointer (some ⟨p, 0, none⟩), .int .i64 a] w fun e w' => e = .returned (.int .i64 (foE a s)) ∧ Jt W w' p (n + 2) (foS a s) ∧ Fr (Tm W.heap.size w) w w' :=
  (forget_any h.tb a ha).mono fun _ _ ⟨he, k, f⟩ => ⟨he, ⟨k, forget_bd h.bd a, h.fr.tab f⟩, f⟩
theorem Jt.lock (h : Jt W w p n s) (hn : n ≤ 700000) (a : Int) (ha : In a) : Calls Try.prog 21 #[.pointer (some ⟨p, 0, none⟩), .int .i64 a] w fun e w' => ∃ o1 k1 c1 o2 k2 c2, e = .returned (.agg #[.int .i64 (s.lk a).owner, .int .i64 (s.lk a).count, .bool (s.lk a).fat, .slice o1 k1 c1, .slice o2 k2 c2]) ∧ k1 = (s.lk a).entry.length ∧ k2 = (s.lk a).wait.length ∧ OwnG elI w' (.slice o1 k1 c1) (fsts (s.lk a).entry) ∧ OwnG elI w' (.slice o2 k2 c2) (fsts (s.lk a).wait) ∧ Jt W w' p n s ∧ Fr no w w' :=
  (lock_any h.tb h.bd (by omega) a ha).mono fun _ _ ⟨v1, v2, he, k1, k2, f⟩ => by
    obtain ⟨o1, c1, rfl⟩ := k1.form
    obtain ⟨o2, c2, rfl⟩ := k2.form
    exact ⟨o1, _, c1, o2, _, c2, he, by simp [fsts, St.lk], by simp [fsts, St.lk], k1, k2, h.keep f, f⟩
end

theorem in_nat (k : Nat) (h : k ≤ 1000000) : In (k : Int) := ⟨by omega, by omega⟩

theorem eq24 (w : World) (q : Nat) : (binOp .eql 24 (.pointer (some ⟨q, 0, none⟩)) (.pointer none)).run Try.prog w = .ok (.bool false) w := by kernel_rfl

theorem fld0 (w : World) (x0 x1 x2 x3 x4 : Value) : (Instr.field 49 (.agg #[x0, x1, x2, x3, x4]) 0).run Try.prog w = .ok x0 w := by kernel_rfl
theorem fld1 (w : World) (x0 x1 x2 x3 x4 : Value) : (Instr.field 49 (.agg #[x0, x1, x2, x3, x4]) 1).run Try.prog w = .ok x1 w := by kernel_rfl
theorem fld2 (w : World) (x0 x1 x2 x3 x4 : Value) : (Instr.field 49 (.agg #[x0, x1, x2, x3, x4]) 2).run Try.prog w = .ok x2 w := by kernel_rfl
theorem fld3 (w : World) (x0 x1 x2 x3 x4 : Value) : (Instr.field 49 (.agg #[x0, x1, x2, x3, x4]) 3).run Try.prog w = .ok x3 w := by kernel_rfl
theorem fld4 (w : World) (x0 x1 x2 x3 x4 : Value) : (Instr.field 49 (.agg #[x0, x1, x2, x3, x4]) 4).run Try.prog w = .ok x4 w := by kernel_rfl

set_option maxRecDepth 100000 in
theorem known_any (w : World) : Calls Try.prog 8 #[] w fun e w' => e = .returned (.bool true) ∧ Fr no w w' := by
  have NW := jNew w w (Fr.refl no w)
  have e1 := eq24
  have g0 := fld0
  have g2 := fld2
  go_enter Try.func8, Try.ntmps8
  go_wp2_with fail
  refine NW.mono ?_
  rintro _ w1 ⟨p, rfl, j1, -⟩
  have C1 := j1.enter (by omega) 1 7 ⟨by decide, by decide⟩ ⟨by decide, by decide⟩
  rw [show enR 1 7 st0 = true by kernel_rfl, show enE 1 7 st0 = 0 by kernel_rfl] at C1
  clear NW
  go_wp2_with fail
  refine C1.mono ?_
  rintro _ w2 ⟨rfl, j2, -⟩
  have C2 := j2.enter (by omega) 1 8 ⟨by decide, by decide⟩ ⟨by decide, by decide⟩
  rw [show enR 1 8 (enS 1 7 st0) = false by kernel_rfl, show enE 1 8 (enS 1 7 st0) = 0 by kernel_rfl] at C2
  clear C1
  go_wp2_with fail
  refine C2.mono ?_
  rintro _ w3 ⟨rfl, j3, -⟩
  have C3 := j3.exit (by omega) 1 7 ⟨by decide, by decide⟩
  rw [show exR 1 7 (enS 1 8 (enS 1 7 st0)) = 8 by kernel_rfl, show exE 1 7 (enS 1 8 (enS 1 7 st0)) = 0 by kernel_rfl] at C3
  clear C2
  go_wp2_with fail
  refine C3.mono ?_
  rintro _ w4 ⟨rfl, j4, -⟩
  have C4 := j4.exit (by omega) 1 7 ⟨by decide, by decide⟩
  rw [show exR 1 7 (exS 1 7 (enS 1 8 (enS 1 7 st0))) = 0 by kernel_rfl, show exE 1 7 (exS 1 7 (enS 1 8 (enS 1 7 st0))) = 130 by kernel_rfl] at C4
  clear C3
  go_wp2_with fail
  refine C4.mono ?_
  rintro _ w5 ⟨rfl, j5, -⟩
  have J5 : Hid _ := j5
  clear C4 j1 j2 j3 j4 j5
  have L1 : Hid (∀ w', Jt w w' p (0 + 2 + 2 + 2 + 2) (exS 1 7 (exS 1 7 (enS 1 8 (enS 1 7 st0)))) → Calls Try.prog 21 #[.pointer (some ⟨p, 0, none⟩), .int .i64 1] w' fun e w' => ∃ o1 k1 c1 o2 k2 c2, e = .returned (.agg #[.int .i64 8, .int .i64 1, .bool true, .slice o1 k1 c1, .slice o2 k2 c2]) ∧ Jt w w' p (0 + 2 + 2 + 2 + 2) (exS 1 7 (exS 1 7 (enS 1 8 (enS 1 7 st0))))) := fun w' h => by
    refine (h.lock (by omega) 1 ⟨by decide, by decide⟩).mono ?_
    rintro e w2 ⟨o1, k1, c1, o2, k2, c2, rfl, -, -, -, -, j, -⟩
    exact ⟨o1, k1, c1, o2, k2, c2, rfl, j⟩
  go_wp2_with fail
  refine (L1.out _ J5.out).mono ?_
  rintro _ w6 ⟨o1, k1, c1, o2, k2, c2, rfl, j6⟩
  have J6 : Hid _ := j6
  clear j6
  go_wp2_with fail
  refine (L1.out _ J6.out).mono ?_
  rintro _ w7 ⟨o3, k3, c3, o4, k4, c4, rfl, j7⟩
  have J7 : Hid _ := j7
  clear j7
  go_wp2_with fail
  go_ret
  exact ⟨rfl, J7.out.fr⟩
end Go.Proofs.Ytkkpimpmhnnbjaa
