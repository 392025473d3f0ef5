/- The statement on what fits: it returns true. -/
import Derived.Test.YtabiagheflkiaaaKnown
import Derived.Deep.Draws
namespace Go.Proofs.Ytabiagheflkiaaa
open Go.ChangeShapes Go.WideShapes Go.ChangeAt Go.RowKit

/-- The six types. -/
def six : List Ty := [⟨1, t0⟩, ⟨2, t0⟩, ⟨3, t0⟩, ⟨5, t0⟩, ⟨4, tA⟩, ⟨6, t0⟩]
def sixK (x : Nat) : Int := (six.getD x ⟨0, t0⟩).k
def sixC (x : Nat) : ByteArray := (six.getD x ⟨0, t0⟩).c
def sixW (x : Nat) : Int := [1, 2, 1, 1, 1, 0].getD x 0
/-- What is asked. -/
def want (x y : Nat) : Bool := decide (x = y ∧ x < 5 ∨ y = 5 ∨ x = 3 ∧ (y = 2 ∨ y = 4))

theorem kf1 : newH [tA] [t0] = (0, [obj, fault, tA], [0, 0, 0]) := by decide +kernel
theorem kf2 : ∀ x y : Fin 6, fits [obj, fault, tA] [0, 0, 0] ⟨sixK x.val, sixC x.val⟩ ⟨sixK y.val, sixC y.val⟩ = want x.val y.val := by decide +kernel
theorem kf3 : ∀ x : Fin 6, words ⟨sixK x.val, sixC x.val⟩ = sixW x.val := by decide +kernel
theorem kf4 : fits [obj, fault, tA] [0, 0, 0] ⟨sixK 4, sixC 4⟩ ⟨4, obj⟩ = true := by decide +kernel
theorem kf5 : fits [obj, fault, tA] [0, 0, 0] ⟨4, obj⟩ ⟨sixK 4, sixC 4⟩ = false := by decide +kernel
theorem kf6 : ∀ x : Fin 6, (sixC x.val).size ≤ 1099511627776 := by decide +kernel

def rowL : Array Value := #[.int .i64 1, .string ⟨#[]⟩, .int .i64 2, .string ⟨#[]⟩, .int .i64 3, .string ⟨#[]⟩, .int .i64 5, .string ⟨#[]⟩, .int .i64 4, .string ⟨#[65]⟩, .int .i64 6, .string ⟨#[]⟩]
def rowD : Array Value := #[.int .i64 1, .int .i64 2, .int .i64 1, .int .i64 1, .int .i64 1, .int .i64 0]

theorem rowL_at : ∀ x : Fin 6, rowL[x.val * 2]? = some (.int .i64 (sixK x.val)) ∧ rowL[x.val * 2 + 1]? = some (.string (sixC x.val)) := by
  intro ⟨x, hx⟩
  match x, hx with
  | 0, _ => exact ⟨rfl, rfl⟩
  | 1, _ => exact ⟨rfl, rfl⟩
  | 2, _ => exact ⟨rfl, rfl⟩
  | 3, _ => exact ⟨rfl, rfl⟩
  | 4, _ => exact ⟨rfl, rfl⟩
  | 5, _ => exact ⟨rfl, rfl⟩
theorem rowD_at : ∀ x : Fin 6, rowD[x.val]? = some (.int .i64 (sixW x.val)) := by
  intro ⟨x, hx⟩
  match x, hx with
  | 0, _ => rfl
  | 1, _ => rfl
  | 2, _ => rfl
  | 3, _ => rfl
  | 4, _ => rfl
  | 5, _ => rfl

theorem cell_of {w : World} {b : Nat} {cs : Array Value} {t : TypeId} (h : w.heap[b]? = some (.cells cs t (0, 0))) (o : Nat) (v : Value) (hv : cs[o]? = some v) : w.cell? ⟨b, o, none⟩ = some v := by
  simp [World.cell?, h, hv]

/-- What the statement reads. -/
abbrev Laid (w2 : World) (x y : Nat) (b : Nat) : Prop :=
  w2.cell? ⟨b, x * 2, none⟩ = some (.int .i64 (sixK x)) ∧ w2.cell? ⟨b, x * 2 + 1, none⟩ = some (.string (sixC x)) ∧ w2.cell? ⟨b, y * 2, none⟩ = some (.int .i64 (sixK y)) ∧ w2.cell? ⟨b, y * 2 + 1, none⟩ = some (.string (sixC y)) ∧
    w2.cell? ⟨b + 1, x, none⟩ = some (.int .i64 (sixW x)) ∧ w2.cell? ⟨b + 1 + 1, 0, none⟩ = some (.int .i64 4) ∧ w2.cell? ⟨b + 1 + 1, 1, none⟩ = some (.string obj)

def lay (w : World) : World := ((w.alloc (.cells rowL 52)).alloc (.cells rowD 53)).alloc (.cells #[.int .i64 4, .string obj] 24)

theorem laid_at (w w2 : World) (f : Fr no (lay w) w2) (x y : Nat) (hx : x < 6) (hy : y < 6) : Laid w2 x y w.heap.size := by
  have h1 : (lay w).heap[w.heap.size]? = some (.cells rowL 52 (0, 0)) := ((Fr.refl no (w.alloc (.cells rowL 52))).alloc _ _ |>.alloc _ _).heap (heap_alloc_new w _) (fun f => f)
  have e1 : (w.alloc (.cells rowL 52)).heap.size = w.heap.size + 1 := by simp
  have h2 : (lay w).heap[w.heap.size + 1]? = some (.cells rowD 53 (0, 0)) := by
    have := heap_alloc_new (w.alloc (.cells rowL 52)) (.cells rowD 53)
    rw [e1] at this
    exact ((Fr.refl no _).alloc _ _).heap this (fun f => f)
  have h3 : (lay w).heap[w.heap.size + 1 + 1]? = some (.cells #[.int .i64 4, .string obj] 24 (0, 0)) := by
    have := heap_alloc_new ((w.alloc (.cells rowL 52)).alloc (.cells rowD 53)) (.cells #[.int .i64 4, .string obj] 24)
    have e2 : ((w.alloc (.cells rowL 52)).alloc (.cells rowD 53)).heap.size = w.heap.size + 1 + 1 := by simp
    rw [e2] at this
    exact this
  have g1 := f.heap h1 (fun f => f)
  have g2 := f.heap h2 (fun f => f)
  have g3 := f.heap h3 (fun f => f)
  exact ⟨cell_of g1 _ _ (rowL_at ⟨x, hx⟩).1, cell_of g1 _ _ (rowL_at ⟨x, hx⟩).2, cell_of g1 _ _ (rowL_at ⟨y, hy⟩).1, cell_of g1 _ _ (rowL_at ⟨y, hy⟩).2, cell_of g2 _ _ (rowD_at ⟨x, hx⟩), cell_of g3 _ _ rfl, cell_of g3 _ _ rfl⟩

theorem Fr.drewN {S : Nat → Prop} {a w : World} (h : Fr S a w) (n : Nat) : Fr S a (w.drewN n) := ⟨h.os, h.output, h.size, h.block, h.frozen⟩
end Go.Proofs.Ytabiagheflkiaaa
