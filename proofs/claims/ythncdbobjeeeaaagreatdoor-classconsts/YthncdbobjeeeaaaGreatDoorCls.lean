/- Classes as data: what they have, what is wrong with one first, and how they lie in memory. -/
import Derived.Test.YthncdbobjeeeaaaGreatDoorRowg
namespace Go.Proofs.YthncdbobjeeeaaaGreatDoor
open Go.ChangeShapes Go.WideShapes Go.ChangeAt Go.RowKit

/-- A type. -/
structure Ty where
  k : Int
  c : ByteArray
/-- A constant. -/
structure Cs where
  k : Int
  n : Int
  re : Nat
  im : Nat
  c : ByteArray
  m : ByteArray
/-- A field. -/
structure Fd where
  name : ByteArray
  ty : Ty
  vol : Bool
/-- A handler. -/
structure Hd where
  fr : Int
  to : Int
  tg : Int
  cl : Int
  dp : Int
/-- A method. -/
structure Mt where
  name : ByteArray
  params : List Ty
  ret : Ty
  lo : Int
  st : Int
  code : List (Int × Int)
  hands : List Hd
/-- A class. -/
structure Cl where
  name : ByteArray
  super : ByteArray
  pool : List Cs
  fields : List Fd
  methods : List Mt
/-- A slice. -/
structure Sv where
  a : Option Addr
  n : Nat
  c : Nat
/-- A method whose lists are slices. -/
structure Ms where
  name : ByteArray
  p : Sv
  ret : Ty
  lo : Int
  st : Int
  c : Sv
  h : Sv

def e0 : ByteArray := ⟨#[]⟩

/-- Whether that is a type. -/
def isType (t : Ty) (void : Bool) : Bool :=
  if t.k = 4 then isName t.c else if t.k = 1 ∨ t.k = 2 ∨ t.k = 3 then decide (t.c = e0) else if t.k = 0 then void && decide (t.c = e0) else false

/-- What is wrong with a constant. -/
def ckCs (x : Cs) : Nat :=
  if x.k = 1 then (if x.re = 0 ∧ x.im = 0 ∧ x.c = e0 ∧ x.m = e0 then 0 else 51)
  else if x.k = 2 then (if x.n = 0 ∧ x.c = e0 ∧ x.m = e0 then 0 else 51)
  else if x.k = 3 then (if x.n = 0 ∧ x.re = 0 ∧ x.im = 0 ∧ x.m = e0 then (if isName x.c = true then 0 else 50) else 51)
  else if x.k = 4 ∨ x.k = 5 then (if x.n = 0 ∧ x.re = 0 ∧ x.im = 0 then (if isName x.c = true ∧ isName x.m = true then 0 else 50) else 51)
  else 51

/-- The first error of a list, each asked with those ahead of it. -/
def firstE {α : Type} (ask : α → List α → Nat) (ahead : List α) : List α → Nat
  | [] => 0
  | x :: r => if ask x ahead ≠ 0 then ask x ahead else firstE ask (ahead ++ [x]) r
def eachE {α : Type} (most : Nat) (ask : α → List α → Nat) (l : List α) : Nat := if most < l.length then 32 else firstE ask [] l

/-- What is wrong with a field, behind these. -/
def ckFd (x : Fd) (ahead : List Fd) : Nat :=
  if isName x.name = true ∧ isType x.ty false = true then (if ahead.any (fun y => decide (y.name = x.name)) = true then 53 else 0) else 50
def ckTy (t : Ty) (_ : List Ty) : Nat := if isType t false = true then 0 else 50
/-- What is wrong with a method's face, behind these. -/
def ckFace (m : Mt) (ahead : List Mt) : Nat :=
  if isName m.name = true then
    (if eachE 6 ckTy m.params ≠ 0 then eachE 6 ckTy m.params
     else if isType m.ret true = true then (if ahead.any (fun y => decide (y.name = m.name)) = true then 53 else 0) else 50)
  else 50

/-- The kind of constant that an op asks for. -/
def asked (op : Int) : Int :=
  if op = 1 then 1 else if op = 2 then 2 else if op = 25 ∨ op = 36 ∨ op = 37 then 3 else if op = 26 ∨ op = 27 then 4 else 5
/-- Whether the constant of that number is of that kind. -/
def isCst (pool : List Cs) (a k : Int) : Bool := decide (0 ≤ a) && (match pool[a.toNat]? with | some x => decide (x.k = k) | none => false)
/-- What is wrong with an instruction. -/
def ckIns (pool : List Cs) (lo : Int) (n : Nat) (x : Int × Int) : Nat :=
  if isb x.1 x.2 = true then
    (if od x.1 = 1 then (if lo ≤ x.2 then 52 else 0)
     else if od x.1 = 2 then (if isCst pool x.2 (asked x.1) = true then 0 else 51)
     else if od x.1 = 3 then (if (n : Int) ≤ x.2 then 52 else 0) else 0)
  else 40
/-- What is wrong with a handler. -/
def ckHd (pool : List Cs) (n : Nat) (h : Hd) : Nat :=
  if 0 ≤ h.fr ∧ h.fr < h.to ∧ h.to ≤ (n : Int) ∧ 0 ≤ h.tg ∧ h.tg < (n : Int) then
    (if h.cl = -1 ∨ isCst pool h.cl 3 = true then (if 0 ≤ h.dp ∧ h.dp ≤ 6 then 0 else 32) else 51)
  else 52
/-- What is wrong with a method's body. -/
def ckBody (pool : List Cs) (m : Mt) : Nat :=
  if 1 + (m.params.length : Int) ≤ m.lo ∧ m.lo ≤ 32 ∧ 0 ≤ m.st ∧ m.st ≤ 64 then
    (if m.code.length = 0 then 32
     else if eachE 200 (fun x _ => ckIns pool m.lo m.code.length x) m.code ≠ 0 then eachE 200 (fun x _ => ckIns pool m.lo m.code.length x) m.code
     else if has (m.code.getD (m.code.length - 1) (0, 0)).1 1 = true then eachE 16 (fun h _ => ckHd pool m.code.length h) m.hands else 54)
  else 32
def ckMt (pool : List Cs) (m : Mt) (ahead : List Mt) : Nat := if ckFace m ahead ≠ 0 then ckFace m ahead else ckBody pool m
/-- What is wrong with a class. -/
def chk (c : Cl) : Nat :=
  if isName c.name = true ∧ (c.super = e0 ∨ isName c.super = true) then
    (if eachE 128 (fun x _ => ckCs x) c.pool ≠ 0 then eachE 128 (fun x _ => ckCs x) c.pool
     else if eachE 8 ckFd c.fields ≠ 0 then eachE 8 ckFd c.fields
     else eachE 12 (ckMt c.pool) c.methods)
  else 50

/-! ### How they lie in memory -/
def tyV (t : Ty) : Value := .agg #[.int .i64 t.k, .string t.c]
def csV (x : Cs) : Value := .agg #[.int .i64 x.k, .int .i64 x.n, .complex .f64 x.re x.im, .string x.c, .string x.m]
def fdV (x : Fd) : Value := .agg #[.string x.name, .int .i64 x.ty.k, .string x.ty.c, .bool x.vol]
def hdV (h : Hd) : Value := .agg #[.int .i64 h.fr, .int .i64 h.to, .int .i64 h.tg, .int .i64 h.cl, .int .i64 h.dp]
def msV (m : Ms) : Value := .agg #[.string m.name, .slice m.p.a m.p.n m.p.c, .int .i64 m.ret.k, .string m.ret.c, .int .i64 m.lo, .int .i64 m.st, .slice m.c.a m.c.n m.c.c, .slice m.h.a m.h.n m.h.c]
def tyC (t : Ty) : List Value := [.int .i64 t.k, .string t.c]
def csC (x : Cs) : List Value := [.int .i64 x.k, .int .i64 x.n, .complex .f64 x.re x.im, .string x.c, .string x.m]
def fdC (x : Fd) : List Value := [.string x.name, .int .i64 x.ty.k, .string x.ty.c, .bool x.vol]
def hdC (h : Hd) : List Value := [.int .i64 h.fr, .int .i64 h.to, .int .i64 h.tg, .int .i64 h.cl, .int .i64 h.dp]

def msC (m : Ms) : List Value := [.string m.name, .slice m.p.a m.p.n m.p.c, .int .i64 m.ret.k, .string m.ret.c, .int .i64 m.lo, .int .i64 m.st, .slice m.c.a m.c.n m.c.c, .slice m.h.a m.h.n m.h.c]

def elTy : El Ty := { t := 49, e := 46, n := 2, z := .agg #[.int .i64 0, .string e0], b := 24, f := tyC }
def elCs : El Cs := { t := 24, e := 39, n := 5, z := .agg #[.int .i64 0, .int .i64 0, .complex .f64 0 0, .string e0, .string e0], b := 64, f := csC }
def elFd : El Fd := { t := 25, e := 48, n := 4, z := .agg #[.string e0, .int .i64 0, .string e0, .bool false], b := 48, f := fdC }
def elHd : El Hd := { t := 51, e := 59, n := 5, z := .agg #[.int .i64 0, .int .i64 0, .int .i64 0, .int .i64 0, .int .i64 0], b := 40, f := hdC }
def elMs : El Ms := { t := 26, e := 53, n := 8, z := .agg #[.string e0, .slice none 0 0, .int .i64 0, .string e0, .int .i64 0, .int .i64 0, .slice none 0 0, .slice none 0 0], b := 128, f := msC }

theorem nob_int (n : Int) : nob (.int .i64 n) := fun c h => by cases h
theorem nob_str (s : ByteArray) : nob (.string s) := fun c h => by cases h
theorem nob_cx (a b : Nat) : nob (.complex .f64 a b) := fun c h => by cases h
theorem nob_bool (b : Bool) : nob (.bool b) := fun c h => by cases h
theorem nob_sl (a : Option Addr) (n c : Nat) : nob (.slice a n c) := fun c h => by cases h

theorem okTy : elTy.Ok where
  und := Tryz.underlying49
  info := by kernel_rfl
  len := fun _ => rfl
  one := fun x u hu => by simp [elTy, tyC] at hu; rcases hu with rfl | rfl <;> rfl
  nb := fun x u hu => by simp [elTy, tyC] at hu; rcases hu with rfl | rfl; exact nob_int _; exact nob_str _
  zlen := rfl
  znb := fun u hu => by
    have : u ∈ [Value.int .i64 0, .string e0] := hu
    simp at this; rcases this with rfl | rfl; exact nob_int _; exact nob_str _
  bs := by decide
  pos := by decide
theorem okCs : elCs.Ok where
  und := Tryz.underlying24
  info := by kernel_rfl
  len := fun _ => rfl
  one := fun x u hu => by simp [elCs, csC] at hu; rcases hu with rfl | rfl | rfl | rfl | rfl <;> rfl
  nb := fun x u hu => by simp [elCs, csC] at hu; rcases hu with rfl | rfl | rfl | rfl | rfl; exact nob_int _; exact nob_int _; exact nob_cx _ _; exact nob_str _; exact nob_str _
  zlen := rfl
  znb := fun u hu => by
    have : u ∈ [Value.int .i64 0, .int .i64 0, .complex .f64 0 0, .string e0, .string e0] := hu
    simp at this; rcases this with rfl | rfl | rfl; exact nob_int _; exact nob_cx _ _; exact nob_str _
  bs := by decide
  pos := by decide
theorem okFd : elFd.Ok where
  und := Tryz.underlying25
  info := by kernel_rfl
  len := fun _ => rfl
  one := fun x u hu => by simp [elFd, fdC] at hu; rcases hu with rfl | rfl | rfl | rfl <;> rfl
  nb := fun x u hu => by simp [elFd, fdC] at hu; rcases hu with rfl | rfl | rfl | rfl; exact nob_str _; exact nob_int _; exact nob_str _; exact nob_bool _
  zlen := by kernel_rfl
  znb := fun u hu => by
    have : u ∈ [Value.string e0, .int .i64 0, .string e0, .bool false] := by
      have e : elFd.z.cells = #[Value.string e0, .int .i64 0, .string e0, .bool false] := by kernel_rfl
      rw [e] at hu
      exact hu
    simp at this; rcases this with rfl | rfl | rfl | rfl; exact nob_str _; exact nob_int _; exact nob_str _; exact nob_bool _
  bs := by decide
  pos := by decide
theorem okHd : elHd.Ok where
  und := Tryz.underlying51
  info := by kernel_rfl
  len := fun _ => rfl
  one := fun x u hu => by simp [elHd, hdC] at hu; rcases hu with rfl | rfl | rfl | rfl | rfl <;> rfl
  nb := fun x u hu => by simp [elHd, hdC] at hu; rcases hu with rfl | rfl | rfl | rfl | rfl <;> exact nob_int _
  zlen := rfl
  znb := fun u hu => by
    have : u ∈ [Value.int .i64 0, .int .i64 0, .int .i64 0, .int .i64 0, .int .i64 0] := hu
    simp at this; rcases this with rfl; exact nob_int _
  bs := by decide
  pos := by decide
theorem okMs : elMs.Ok where
  und := Tryz.underlying26
  info := by kernel_rfl
  len := fun _ => rfl
  one := fun x u hu => by simp [elMs, msC] at hu; rcases hu with rfl | rfl | rfl | rfl | rfl | rfl | rfl | rfl <;> rfl
  nb := fun x u hu => by simp [elMs, msC] at hu; rcases hu with rfl | rfl | rfl | rfl | rfl | rfl | rfl | rfl; exact nob_str _; exact nob_sl _ _ _; exact nob_int _; exact nob_str _; exact nob_int _; exact nob_int _; exact nob_sl _ _ _; exact nob_sl _ _ _
  zlen := by kernel_rfl
  znb := fun u hu => by
    have : u ∈ [Value.string e0, .slice none 0 0, .int .i64 0, .string e0, .int .i64 0, .int .i64 0, .slice none 0 0, .slice none 0 0] := by
      have e : elMs.z.cells = #[Value.string e0, .slice none 0 0, .int .i64 0, .string e0, .int .i64 0, .int .i64 0, .slice none 0 0, .slice none 0 0] := by kernel_rfl
      rw [e] at hu
      exact hu
    simp at this; rcases this with rfl | rfl | rfl | rfl | rfl | rfl <;> first | exact nob_str _ | exact nob_sl _ _ _ | exact nob_int _
  bs := by decide
  pos := by decide
end Go.Proofs.YthncdbobjeeeaaaGreatDoor
