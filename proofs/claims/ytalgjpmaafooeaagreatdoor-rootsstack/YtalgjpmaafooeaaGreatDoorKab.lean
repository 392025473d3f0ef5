/- Classes as data. -/
import Derived.Test.YtalgjpmaafooeaaGreatDoorKaa
namespace Go.Proofs.YtalgjpmaafooeaaGreatDoor
open Go.ChangeShapes Go.WideShapes Go.ChangeAt Go.RowKit
structure Ty where
 k : Int
 c : ByteArray
structure Cs where
 k : Int
 n : Int
 re : Nat
 im : Nat
 c : ByteArray
 m : ByteArray
structure Fd where
 name : ByteArray
 ty : Ty
 vol : Bool
structure Hd where
 fr : Int
 to : Int
 tg : Int
 cl : Int
 dp : Int
structure Mt where
 name : ByteArray
 params : List Ty
 ret : Ty
 lo : Int
 st : Int
 code : List (Int × Int)
 hands : List Hd
structure Cl where
 name : ByteArray
 super : ByteArray
 pool : List Cs
 fields : List Fd
 methods : List Mt
structure Sv where
 a : Option Addr
 n : Nat
 c : Nat
structure Ms where
 name : ByteArray
 p : Sv
 ret : Ty
 lo : Int
 st : Int
 c : Sv
 h : Sv
def e0 : ByteArray := ⟨#[]⟩
def isType (t : Ty) (void : Bool) : Bool :=
 if t.k = 4 then isName t.c else if t.k = 1 ∨ t.k = 2 ∨ t.k = 3 then decide (t.c = e0) else if t.k = 0 then void && decide (t.c = e0) else false
def ckCs (x : Cs) : Nat :=
 if x.k = 1 then (if x.re = 0 ∧ x.im = 0 ∧ x.c = e0 ∧ x.m = e0 then 0 else 51)
 else if x.k = 2 then (if x.n = 0 ∧ x.c = e0 ∧ x.m = e0 then 0 else 51)
 else if x.k = 3 then (if x.n = 0 ∧ x.re = 0 ∧ x.im = 0 ∧ x.m = e0 then (if isName x.c = true then 0 else 50) else 51)
 else if x.k = 4 ∨ x.k = 5 then (if x.n = 0 ∧ x.re = 0 ∧ x.im = 0 then (if isName x.c = true ∧ isName x.m = true then 0 else 50) else 51)
 else 51
def firstE {α : Type} (ask : α → List α → Nat) (ahead : List α) : List α → Nat
 | [] => 0
 | x :: r => if ask x ahead ≠ 0 then ask x ahead else firstE ask (ahead ++ [x]) r
def eachE {α : Type} (most : Nat) (ask : α → List α → Nat) (l : List α) : Nat := if most < l.length then 32 else firstE ask [] l
def ckFd (x : Fd) (ahead : List Fd) : Nat :=
 if isName x.name = true ∧ isType x.ty false = true then (if ahead.any (fun y => decide (y.name = x.name)) = true then 53 else 0) else 50
def ckTy (t : Ty) (_ : List Ty) : Nat := if isType t false = true then 0 else 50
def ckFace (m : Mt) (ahead : List Mt) : Nat :=
 if isName m.name = true then
  (if eachE 6 ckTy m.params ≠ 0 then eachE 6 ckTy m.params
   else if isType m.ret true = true then (if ahead.any (fun y => decide (y.name = m.name)) = true then 53 else 0) else 50)
 else 50
def asked (op : Int) : Int :=
 if op = 1 then 1 else if op = 2 then 2 else if op = 25 ∨ op = 36 ∨ op = 37 then 3 else if op = 26 ∨ op = 27 then 4 else 5
def isCst (pool : List Cs) (a k : Int) : Bool := decide (0 ≤ a) && (match pool[a.toNat]? with | some x => decide (x.k = k) | none => false)
def ckIns (pool : List Cs) (lo : Int) (n : Nat) (x : Int × Int) : Nat :=
 if isb x.1 x.2 = true then
  (if od x.1 = 1 then (if lo ≤ x.2 then 52 else 0)
   else if od x.1 = 2 then (if isCst pool x.2 (asked x.1) = true then 0 else 51)
   else if od x.1 = 3 then (if (n : Int) ≤ x.2 then 52 else 0) else 0)
 else 40
def ckHd (pool : List Cs) (n : Nat) (h : Hd) : Nat :=
 if 0 ≤ h.fr ∧ h.fr < h.to ∧ h.to ≤ (n : Int) ∧ 0 ≤ h.tg ∧ h.tg < (n : Int) then
  (if h.cl = -1 ∨ isCst pool h.cl 3 = true then (if 0 ≤ h.dp ∧ h.dp ≤ 6 then 0 else 32) else 51)
 else 52
def ckBody (pool : List Cs) (m : Mt) : Nat :=
 if 1 + (m.params.length : Int) ≤ m.lo ∧ m.lo ≤ 32 ∧ 0 ≤ m.st ∧ m.st ≤ 64 then
  (if m.code.length = 0 then 32
   else if eachE 200 (fun x _ => ckIns pool m.lo m.code.length x) m.code ≠ 0 then eachE 200 (fun x _ => ckIns pool m.lo m.code.length x) m.code
   else if has (m.code.getD (m.code.length - 1) (0, 0)).1 1 = true then eachE 16 (fun h _ => ckHd pool m.code.length h) m.hands else 54)
 else 32
def ckMt (pool : List Cs) (m : Mt) (ahead : List Mt) : Nat := if ckFace m ahead ≠ 0 then ckFace m ahead else ckBody pool m
def chk (c : Cl) : Nat :=
 if isName c.name = true ∧ (c.super = e0 ∨ isName c.super = true) then
  (if eachE 128 (fun x _ => ckCs x) c.pool ≠ 0 then eachE 128 (fun x _ => ckCs x) c.pool
   else if eachE 8 ckFd c.fields ≠ 0 then eachE 8 ckFd c.fields
   else eachE 12 (ckMt c.pool) c.methods)
 else 50
def tyV (t : Ty) : Value := .agg #[.int .i64 t.k, .string t.c]
def csV (x : Cs) : Value := .agg #[.int .i64 x.k, .int .i64 x.n, .complex .f64 x.re x.im, .string x.c, .string x.m]
def msV (m : Ms) : Value := .agg #[.string m.name, .slice m.p.a m.p.n m.p.c, .int .i64 m.ret.k, .string m.ret.c, .int .i64 m.lo, .int .i64 m.st, .slice m.c.a m.c.n m.c.c, .slice m.h.a m.h.n m.h.c]
def tyC (t : Ty) : List Value := [.int .i64 t.k, .string t.c]
def csC (x : Cs) : List Value := [.int .i64 x.k, .int .i64 x.n, .complex .f64 x.re x.im, .string x.c, .string x.m]
def fdC (x : Fd) : List Value := [.string x.name, .int .i64 x.ty.k, .string x.ty.c, .bool x.vol]
def hdC (h : Hd) : List Value := [.int .i64 h.fr, .int .i64 h.to, .int .i64 h.tg, .int .i64 h.cl, .int .i64 h.dp]
def msC (m : Ms) : List Value := [.string m.name, .slice m.p.a m.p.n m.p.c, .int .i64 m.ret.k, .string m.ret.c, .int .i64 m.lo, .int .i64 m.st, .slice m.c.a m.c.n m.c.c, .slice m.h.a m.h.n m.h.c]
def elTy : El Ty := { t := 42, e := 44, n := 2, z := .agg #[.int .i64 0, .string e0], b := 24, f := tyC }
def elCs : El Cs := { t := 36, e := 35, n := 5, z := .agg #[.int .i64 0, .int .i64 0, .complex .f64 0 0, .string e0, .string e0], b := 64, f := csC }
def elFd : El Fd := { t := 49, e := 109, n := 4, z := .agg #[.string e0, .int .i64 0, .string e0, .bool false], b := 48, f := fdC }
def elHd : El Hd := { t := 45, e := 156, n := 5, z := .agg #[.int .i64 0, .int .i64 0, .int .i64 0, .int .i64 0, .int .i64 0], b := 40, f := hdC }
def elMs : El Ms := { t := 48, e := 47, n := 8, z := .agg #[.string e0, .slice none 0 0, .int .i64 0, .string e0, .int .i64 0, .int .i64 0, .slice none 0 0, .slice none 0 0], b := 128, f := msC }
theorem nob_int (n : Int) : nob (.int .i64 n) := fun c h => by cases h
theorem nob_str (s : ByteArray) : nob (.string s) := fun c h => by cases h
theorem nob_cx (a b : Nat) : nob (.complex .f64 a b) := fun c h => by cases h
theorem nob_bool (b : Bool) : nob (.bool b) := fun c h => by cases h
theorem nob_sl (a : Option Addr) (n c : Nat) : nob (.slice a n c) := fun c h => by cases h
theorem okTy : elTy.Ok where
 und := Tryz.underlying42
 info := by kernel_rfl
 len := fun _ => rfl
 one := fun x u hu => by simp [elTy, tyC] at hu; rcases hu with rfl | rfl <;> rfl
 nb := fun x u hu => by simp [elTy, tyC] at hu; rcases hu with rfl | rfl; exact nob_int _; exact nob_str _
 zlen := rfl
 znb := fun u hu => by
  have : u ∈ [Value.int .i64 0, .string e0] := hu
  simp at this; rcases this with rfl | rfl; exact nob_int _; exact nob_str _
 bs := by decide
 pos := by decide
theorem okCs : elCs.Ok where
 und := Tryz.underlying36
 info := by kernel_rfl
 len := fun _ => rfl
 one := fun x u hu => by simp [elCs, csC] at hu; rcases hu with rfl | rfl | rfl | rfl | rfl <;> rfl
 nb := fun x u hu => by simp [elCs, csC] at hu; rcases hu with rfl | rfl | rfl | rfl | rfl; exact nob_int _; exact nob_int _; exact nob_cx _ _; exact nob_str _; exact nob_str _
 zlen := rfl
 znb := fun u hu => by
  have : u ∈ [Value.int .i64 0, .int .i64 0, .complex .f64 0 0, .string e0, .string e0] := hu
  simp at this; rcases this with rfl | rfl | rfl; exact nob_int _; exact nob_cx _ _; exact nob_str _
 bs := by decide
 pos := by decide
theorem okFd : elFd.Ok where
 und := Tryz.underlying49
 info := by kernel_rfl
 len := fun _ => rfl
 one := fun x u hu => by simp [elFd, fdC] at hu; rcases hu with rfl | rfl | rfl | rfl <;> rfl
 nb := fun x u hu => by simp [elFd, fdC] at hu; rcases hu with rfl | rfl | rfl | rfl; exact nob_str _; exact nob_int _; exact nob_str _; exact nob_bool _
 zlen := by kernel_rfl
 znb := fun u hu => by
  have : u ∈ [Value.string e0, .int .i64 0, .string e0, .bool false] := by
   have e : elFd.z.cells = #[Value.string e0, .int .i64 0, .string e0, .bool false] := by kernel_rfl
   rw [e] at hu
   exact hu
  simp at this; rcases this with rfl | rfl | rfl | rfl; exact nob_str _; exact nob_int _; exact nob_str _; exact nob_bool _
 bs := by decide
 pos := by decide
theorem okHd : elHd.Ok where
 und := Tryz.underlying45
 info := by kernel_rfl
 len := fun _ => rfl
 one := fun x u hu => by simp [elHd, hdC] at hu; rcases hu with rfl | rfl | rfl | rfl | rfl <;> rfl
 nb := fun x u hu => by simp [elHd, hdC] at hu; rcases hu with rfl | rfl | rfl | rfl | rfl <;> exact nob_int _
 zlen := rfl
 znb := fun u hu => by
  have : u ∈ [Value.int .i64 0, .int .i64 0, .int .i64 0, .int .i64 0, .int .i64 0] := hu
  simp at this; rcases this with rfl; exact nob_int _
 bs := by decide
 pos := by decide
theorem okMs : elMs.Ok where
 und := Tryz.underlying48
 info := by kernel_rfl
 len := fun _ => rfl
 one := fun x u hu => by simp [elMs, msC] at hu; rcases hu with rfl | rfl | rfl | rfl | rfl | rfl | rfl | rfl <;> rfl
 nb := fun x u hu => by simp [elMs, msC] at hu; rcases hu with rfl | rfl | rfl | rfl | rfl | rfl | rfl | rfl; exact nob_str _; exact nob_sl _ _ _; exact nob_int _; exact nob_str _; exact nob_int _; exact nob_int _; exact nob_sl _ _ _; exact nob_sl _ _ _
 zlen := by kernel_rfl
 znb := fun u hu => by
  have : u ∈ [Value.string e0, .slice none 0 0, .int .i64 0, .string e0, .int .i64 0, .int .i64 0, .slice none 0 0, .slice none 0 0] := by
   have e : elMs.z.cells = #[Value.string e0, .slice none 0 0, .int .i64 0, .string e0, .int .i64 0, .int .i64 0, .slice none 0 0, .slice none 0 0] := by kernel_rfl
   rw [e] at hu
   exact hu
  simp at this; rcases this with rfl | rfl | rfl | rfl | rfl | rfl <;> first | exact nob_str _ | exact nob_sl _ _ _ | exact nob_int _
 bs := by decide
 pos := by decide
end Go.Proofs.YtalgjpmaafooeaaGreatDoor
/- What a type and a constant may be. -/
namespace Go.Proofs.YtalgjpmaafooeaaGreatDoor
open Go.ChangeShapes Go.WideShapes Go.ChangeAt Go.RowKit
theorem emp (c : ByteArray) : c.toList.isEmpty = decide (c = e0) := by
 rw [ByteArray.toList_eq]
 by_cases h : c = e0
 · subst h; rfl
 · rw [decide_eq_false h]
   have : c.data.toList ≠ [] := fun e => h (by
    cases c with
    | mk d =>
     have : d = #[] := by
      cases d with
      | mk l => simp at e; subst e; rfl
     subst this
     rfl)
   simpa using this
theorem emp_ne (c : ByteArray) (h : c ≠ e0) : ¬ c.toList = [] := fun e => by
 have := emp c
 rw [e, decide_eq_false h] at this
 simp at this
theorem isType_any (w : World) (t : Ty) (void : Bool) (hs : t.c.size ≤ 1099511627776) : Calls Tryz.prog 65 #[tyV t, .bool void] w fun e w' => e = .returned (.bool (isType t void)) ∧ Fr no w w' := by
 obtain ⟨k, c⟩ := t
 unfold tyV
 simp only [] at *
 have HF : Hid (Fr no w (w.alloc (.cells #[.int .i64 k, .string c] 44))) := (Fr.refl no w).alloc _ _
 by_cases h4 : k = 4
 · subst h4
   have I := isName_any (w.alloc (.cells #[.int .i64 4, .string c] 44)) c hs
   have HE : Hid (isType ⟨4, c⟩ void = isName c) := by show _ = _; unfold isType; rw [if_pos rfl]
   go_enter Tryz.func65, Tryz.ntmps65
   go_wp2_with fail
   refine I.mono ?_
   rintro e w1 ⟨rfl, rfl⟩
   go_wp2_with fail
   go_ret
   rw [HE.out]
   exact ⟨rfl, HF.out⟩
 · have q4 : (k == 4) = false := by simpa using h4
   by_cases h1 : k = 1
   · subst h1
     have HE : Hid (isType ⟨1, c⟩ void = c.toList.isEmpty) := by show _ = _; unfold isType; rw [if_neg h4, if_pos (.inl rfl), emp]
     go_enter Tryz.func65, Tryz.ntmps65
     go_wp2_with fail
     go_ret
     rw [HE.out]
     exact ⟨rfl, HF.out⟩
   · have q1 : (k == 1) = false := by simpa using h1
     by_cases h2 : k = 2
     · subst h2
       have HE : Hid (isType ⟨2, c⟩ void = c.toList.isEmpty) := by show _ = _; unfold isType; rw [if_neg h4, if_pos (.inr (.inl rfl)), emp]
       go_enter Tryz.func65, Tryz.ntmps65
       go_wp2_with fail
       go_ret
       rw [HE.out]
       exact ⟨rfl, HF.out⟩
     · have q2 : (k == 2) = false := by simpa using h2
       by_cases h3 : k = 3
       · subst h3
         have HE : Hid (isType ⟨3, c⟩ void = c.toList.isEmpty) := by show _ = _; unfold isType; rw [if_neg h4, if_pos (.inr (.inr rfl)), emp]
         go_enter Tryz.func65, Tryz.ntmps65
         go_wp2_with fail
         go_ret
         rw [HE.out]
         exact ⟨rfl, HF.out⟩
       · have q3 : (k == 3) = false := by simpa using h3
         by_cases h0 : k = 0
         · subst h0
           have HE : Hid (isType ⟨0, c⟩ void = (void && c.toList.isEmpty)) := by show _ = _; unfold isType; rw [if_neg h4, if_neg (by simp), if_pos rfl, emp]
           cases void with
           | true =>
            go_enter Tryz.func65, Tryz.ntmps65
            go_wp2_with fail
            go_ret
            rw [HE.out]
            exact ⟨rfl, HF.out⟩
           | false =>
            go_enter Tryz.func65, Tryz.ntmps65
            go_wp2_with fail
            go_ret
            rw [HE.out]
            exact ⟨rfl, HF.out⟩
         · have q0 : (k == 0) = false := by simpa using h0
           have HE : Hid (isType ⟨k, c⟩ void = false) := by show _ = _; unfold isType; simp only []; rw [if_neg h4, if_neg (by omega), if_neg h0]
           go_enter Tryz.func65, Tryz.ntmps65
           go_wp2_with fail
           go_ret
           rw [HE.out]
           exact ⟨rfl, HF.out⟩
def own (k : Int) : Int := if k = 1 then 1 else if k = 2 then 2 else if k = 3 then 4 else if k = 4 ∨ k = 5 then 12 else 0
theorem ownParts_any (w : World) (k : Int) : Calls Tryz.prog 63 #[.int .i64 k] w fun e w' => e = .returned (.int .i64 (own k)) ∧ w' = w := by
 by_cases h1 : k = 1
 · subst h1
   go_enter Tryz.func63, Tryz.ntmps63
   go_wp2_with fail
   go_ret
   exact ⟨rfl, rfl⟩
 by_cases h2 : k = 2
 · subst h2
   go_enter Tryz.func63, Tryz.ntmps63
   go_wp2_with fail
   go_ret
   exact ⟨rfl, rfl⟩
 by_cases h3 : k = 3
 · subst h3
   go_enter Tryz.func63, Tryz.ntmps63
   go_wp2_with fail
   go_ret
   exact ⟨rfl, rfl⟩
 by_cases h4 : k = 4
 · subst h4
   go_enter Tryz.func63, Tryz.ntmps63
   go_wp2_with fail
   go_ret
   exact ⟨rfl, rfl⟩
 by_cases h5 : k = 5
 · subst h5
   go_enter Tryz.func63, Tryz.ntmps63
   go_wp2_with fail
   go_ret
   exact ⟨rfl, rfl⟩
 have q1 : (k == 1) = false := by simpa using h1
 have q2 : (k == 2) = false := by simpa using h2
 have q3 : (k == 3) = false := by simpa using h3
 have q4 : (k == 4) = false := by simpa using h4
 have q5 : (k == 5) = false := by simpa using h5
 have HE : Hid (own k = 0) := by show _ = _; unfold own; rw [if_neg h1, if_neg h2, if_neg h3, if_neg (by omega)]
 clear h1 h2 h3 h4 h5
 go_enter Tryz.func63, Tryz.ntmps63
 go_wp2_with fail
 go_ret
 rw [HE.out]
 exact ⟨rfl, rfl⟩
theorem sameBits_any (w : World) (a b c d : Nat) : Calls Tryz.prog 100 #[.complex .f64 a b, .complex .f64 c d] w fun e w' => e = .returned (.bool (decide (a = c ∧ b = d))) ∧ w' = w := by
 have hbits := run_bits
 by_cases h1 : a = c
 · subst h1
   by_cases h2 : b = d
   · subst h2
     go_enter Tryz.func100, Tryz.ntmps100
     go_wp2_with fail
     go_ret
     exact ⟨by simp, rfl⟩
   · have q : ((b : Int) == (d : Int)) = false := by simp; omega
     go_enter Tryz.func100, Tryz.ntmps100
     go_wp2_with fail
     go_ret
     exact ⟨by simp [h2], rfl⟩
 · have q : ((a : Int) == (c : Int)) = false := by simp; omega
   go_enter Tryz.func100, Tryz.ntmps100
   go_wp2_with fail
   go_ret
   exact ⟨by simp [h1], rfl⟩
def parts (x : Cs) : Int := (if x.n = 0 then 0 else 1) + (if x.re = 0 ∧ x.im = 0 then 0 else 2) + (if x.c = e0 then 0 else 4) + (if x.m = e0 then 0 else 8)
theorem emp_eq (c : ByteArray) (h : c = e0) : c.toList = [] := (toList_nil c).2 (by subst h; rfl)
theorem emp_false (c : ByteArray) (h : c ≠ e0) : c.toList.isEmpty = false := by rw [emp, decide_eq_false h]
set_option maxRecDepth 100000 in
set_option maxHeartbeats 2000000 in
theorem partsOf_any (w : World) (x : Cs) : Calls Tryz.prog 64 #[csV x] w fun e w' => e = .returned (.int .i64 (parts x)) ∧ Fr no w w' := by
 obtain ⟨k, n, re, im, c, m⟩ := x
 unfold csV
 simp only []
 have HF : Hid (Fr no w (w.alloc (.cells #[.int .i64 k, .int .i64 n, .complex .f64 re im, .string c, .string m] 35))) := (Fr.refl no w).alloc _ _
 have S := sameBits_any (w.alloc (.cells #[.int .i64 k, .int .i64 n, .complex .f64 re im, .string c, .string m] 35)) re im 0 0
 have HP : Hid (parts ⟨k, n, re, im, c, m⟩ = (if n = 0 then 0 else 1) + (if re = 0 ∧ im = 0 then 0 else 2) + (if c = e0 then 0 else 4) + (if m = e0 then 0 else 8)) := rfl
 by_cases h1 : n = 0
 · subst h1
   rw [if_pos rfl] at HP
   by_cases h2 : re = 0 ∧ im = 0
   · rw [decide_eq_true h2] at S
     rw [if_pos h2] at HP
     clear h2
     by_cases h3 : c = e0
     · have q3 := emp_eq c h3
       rw [if_pos h3] at HP
       clear h3
       by_cases h4 : m = e0
       · have q4 := emp_eq m h4
         rw [if_pos h4] at HP
         clear h4
         go_enter Tryz.func64, Tryz.ntmps64
         go_wp2_with fail
         refine S.mono ?_
         rintro e w1 ⟨rfl, rfl⟩
         go_wp2_with fail
         go_ret
         rw [HP.out]
         exact ⟨by first | rfl | decide, HF.out⟩
       · have q4 := emp_ne m h4
         have q4b := emp_false m h4
         rw [if_neg h4] at HP
         clear h4
         go_enter Tryz.func64, Tryz.ntmps64
         go_wp2_with fail
         refine S.mono ?_
         rintro e w1 ⟨rfl, rfl⟩
         go_wp2_with fail
         go_ret
         rw [HP.out]
         exact ⟨by first | rfl | decide, HF.out⟩
     · have q3 := emp_ne c h3
       have q3b := emp_false c h3
       rw [if_neg h3] at HP
       clear h3
       by_cases h4 : m = e0
       · have q4 := emp_eq m h4
         rw [if_pos h4] at HP
         clear h4
         go_enter Tryz.func64, Tryz.ntmps64
         go_wp2_with fail
         refine S.mono ?_
         rintro e w1 ⟨rfl, rfl⟩
         go_wp2_with fail
         go_ret
         rw [HP.out]
         exact ⟨by first | rfl | decide, HF.out⟩
       · have q4 := emp_ne m h4
         have q4b := emp_false m h4
         rw [if_neg h4] at HP
         clear h4
         go_enter Tryz.func64, Tryz.ntmps64
         go_wp2_with fail
         refine S.mono ?_
         rintro e w1 ⟨rfl, rfl⟩
         go_wp2_with fail
         go_ret
         rw [HP.out]
         exact ⟨by first | rfl | decide, HF.out⟩
   · rw [decide_eq_false h2] at S
     rw [if_neg h2] at HP
     clear h2
     by_cases h3 : c = e0
     · have q3 := emp_eq c h3
       rw [if_pos h3] at HP
       clear h3
       by_cases h4 : m = e0
       · have q4 := emp_eq m h4
         rw [if_pos h4] at HP
         clear h4
         go_enter Tryz.func64, Tryz.ntmps64
         go_wp2_with fail
         refine S.mono ?_
         rintro e w1 ⟨rfl, rfl⟩
         go_wp2_with fail
         go_ret
         rw [HP.out]
         exact ⟨by first | rfl | decide, HF.out⟩
       · have q4 := emp_ne m h4
         have q4b := emp_false m h4
         rw [if_neg h4] at HP
         clear h4
         go_enter Tryz.func64, Tryz.ntmps64
         go_wp2_with fail
         refine S.mono ?_
         rintro e w1 ⟨rfl, rfl⟩
         go_wp2_with fail
         go_ret
         rw [HP.out]
         exact ⟨by first | rfl | decide, HF.out⟩
     · have q3 := emp_ne c h3
       have q3b := emp_false c h3
       rw [if_neg h3] at HP
       clear h3
       by_cases h4 : m = e0
       · have q4 := emp_eq m h4
         rw [if_pos h4] at HP
         clear h4
         go_enter Tryz.func64, Tryz.ntmps64
         go_wp2_with fail
         refine S.mono ?_
         rintro e w1 ⟨rfl, rfl⟩
         go_wp2_with fail
         go_ret
         rw [HP.out]
         exact ⟨by first | rfl | decide, HF.out⟩
       · have q4 := emp_ne m h4
         have q4b := emp_false m h4
         rw [if_neg h4] at HP
         clear h4
         go_enter Tryz.func64, Tryz.ntmps64
         go_wp2_with fail
         refine S.mono ?_
         rintro e w1 ⟨rfl, rfl⟩
         go_wp2_with fail
         go_ret
         rw [HP.out]
         exact ⟨by first | rfl | decide, HF.out⟩
 · rw [if_neg h1] at HP
   have q1 : (n == 0) = false := by simpa using h1
   by_cases h2 : re = 0 ∧ im = 0
   · rw [decide_eq_true h2] at S
     rw [if_pos h2] at HP
     clear h2
     by_cases h3 : c = e0
     · have q3 := emp_eq c h3
       rw [if_pos h3] at HP
       clear h3
       by_cases h4 : m = e0
       · have q4 := emp_eq m h4
         rw [if_pos h4] at HP
         clear h4
         go_enter Tryz.func64, Tryz.ntmps64
         go_wp2_with fail
         refine S.mono ?_
         rintro e w1 ⟨rfl, rfl⟩
         go_wp2_with fail
         go_ret
         rw [HP.out]
         exact ⟨by first | rfl | decide, HF.out⟩
       · have q4 := emp_ne m h4
         have q4b := emp_false m h4
         rw [if_neg h4] at HP
         clear h4
         go_enter Tryz.func64, Tryz.ntmps64
         go_wp2_with fail
         refine S.mono ?_
         rintro e w1 ⟨rfl, rfl⟩
         go_wp2_with fail
         go_ret
         rw [HP.out]
         exact ⟨by first | rfl | decide, HF.out⟩
     · have q3 := emp_ne c h3
       have q3b := emp_false c h3
       rw [if_neg h3] at HP
       clear h3
       by_cases h4 : m = e0
       · have q4 := emp_eq m h4
         rw [if_pos h4] at HP
         clear h4
         go_enter Tryz.func64, Tryz.ntmps64
         go_wp2_with fail
         refine S.mono ?_
         rintro e w1 ⟨rfl, rfl⟩
         go_wp2_with fail
         go_ret
         rw [HP.out]
         exact ⟨by first | rfl | decide, HF.out⟩
       · have q4 := emp_ne m h4
         have q4b := emp_false m h4
         rw [if_neg h4] at HP
         clear h4
         go_enter Tryz.func64, Tryz.ntmps64
         go_wp2_with fail
         refine S.mono ?_
         rintro e w1 ⟨rfl, rfl⟩
         go_wp2_with fail
         go_ret
         rw [HP.out]
         exact ⟨by first | rfl | decide, HF.out⟩
   · rw [decide_eq_false h2] at S
     rw [if_neg h2] at HP
     clear h2
     by_cases h3 : c = e0
     · have q3 := emp_eq c h3
       rw [if_pos h3] at HP
       clear h3
       by_cases h4 : m = e0
       · have q4 := emp_eq m h4
         rw [if_pos h4] at HP
         clear h4
         go_enter Tryz.func64, Tryz.ntmps64
         go_wp2_with fail
         refine S.mono ?_
         rintro e w1 ⟨rfl, rfl⟩
         go_wp2_with fail
         go_ret
         rw [HP.out]
         exact ⟨by first | rfl | decide, HF.out⟩
       · have q4 := emp_ne m h4
         have q4b := emp_false m h4
         rw [if_neg h4] at HP
         clear h4
         go_enter Tryz.func64, Tryz.ntmps64
         go_wp2_with fail
         refine S.mono ?_
         rintro e w1 ⟨rfl, rfl⟩
         go_wp2_with fail
         go_ret
         rw [HP.out]
         exact ⟨by first | rfl | decide, HF.out⟩
     · have q3 := emp_ne c h3
       have q3b := emp_false c h3
       rw [if_neg h3] at HP
       clear h3
       by_cases h4 : m = e0
       · have q4 := emp_eq m h4
         rw [if_pos h4] at HP
         clear h4
         go_enter Tryz.func64, Tryz.ntmps64
         go_wp2_with fail
         refine S.mono ?_
         rintro e w1 ⟨rfl, rfl⟩
         go_wp2_with fail
         go_ret
         rw [HP.out]
         exact ⟨by first | rfl | decide, HF.out⟩
       · have q4 := emp_ne m h4
         have q4b := emp_false m h4
         rw [if_neg h4] at HP
         clear h4
         go_enter Tryz.func64, Tryz.ntmps64
         go_wp2_with fail
         refine S.mono ?_
         rintro e w1 ⟨rfl, rfl⟩
         go_wp2_with fail
         go_ret
         rw [HP.out]
         exact ⟨by first | rfl | decide, HF.out⟩
def sumB (a b c d : Bool) : Int := (if a then 0 else 1) + (if b then 0 else 2) + (if c then 0 else 4) + (if d then 0 else 8)
theorem parts_b (x : Cs) : parts x = sumB (decide (x.n = 0)) (decide (x.re = 0 ∧ x.im = 0)) (decide (x.c = e0)) (decide (x.m = e0)) := by
 unfold parts sumB
 by_cases h1 : x.n = 0 <;> by_cases h2 : x.re = 0 ∧ x.im = 0 <;> by_cases h3 : x.c = e0 <;> by_cases h4 : x.m = e0 <;> simp only [h1, h2, h3, h4, if_true, if_false, decide_true, decide_false] <;> rfl
theorem key1 : ∀ a b c d : Bool, (bits .andNot .i64 (sumB a b c d) 1 == 0) = (b && c && d) := by decide
theorem key2 : ∀ a b c d : Bool, (bits .andNot .i64 (sumB a b c d) 2 == 0) = (a && c && d) := by decide
theorem key4 : ∀ a b c d : Bool, (bits .andNot .i64 (sumB a b c d) 4 == 0) = (a && b && d) := by decide
theorem key12 : ∀ a b c d : Bool, (bits .andNot .i64 (sumB a b c d) 12 == 0) = (a && b) := by decide
set_option maxRecDepth 100000 in
set_option maxHeartbeats 2000000 in
theorem checkConst_any (w : World) (x : Cs) (hc : x.c.size ≤ 1099511627776) (hm : x.m.size ≤ 1099511627776) (ah : Value) : Calls Tryz.prog 36 #[csV x, ah] w fun e w' => e = .returned (.int .i64 (ckCs x : Int)) ∧ Fr no w w' := by
 have hpb := parts_b x
 have P0 := partsOf_any (w.alloc (.cells (csC x).toArray 35)) x
 obtain ⟨k, n, re, im, c, m⟩ := x
 simp only [] at hpb hc hm
 have P : Calls Tryz.prog 64 #[.agg #[.int .i64 k, .int .i64 n, .complex .f64 re im, .string c, .string m]] (w.alloc (.cells #[.int .i64 k, .int .i64 n, .complex .f64 re im, .string c, .string m] 35)) fun e w' => e = .returned (.int .i64 (parts ⟨k, n, re, im, c, m⟩)) ∧ Fr no (w.alloc (.cells #[.int .i64 k, .int .i64 n, .complex .f64 re im, .string c, .string m] 35)) w' := P0
 clear P0
 have HF : Hid (Fr no w (w.alloc (.cells #[.int .i64 k, .int .i64 n, .complex .f64 re im, .string c, .string m] 35))) := (Fr.refl no w).alloc _ _
 have O := ownParts_any (w.alloc (.cells #[.int .i64 k, .int .i64 n, .complex .f64 re im, .string c, .string m] 35)) k
 have C3 : ((w.alloc (.cells #[.int .i64 k, .int .i64 n, .complex .f64 re im, .string c, .string m] 35))).cell? ⟨w.heap.size, 3, none⟩ = some (.string c) := by simp
 have C4 : ((w.alloc (.cells #[.int .i64 k, .int .i64 n, .complex .f64 re im, .string c, .string m] 35))).cell? ⟨w.heap.size, 4, none⟩ = some (.string m) := by simp
 have NC := fun w' => isName_any w' c hc
 have NM := fun w' => isName_any w' m hm
 have HC : Hid (ckCs ⟨k, n, re, im, c, m⟩ = ckCs ⟨k, n, re, im, c, m⟩) := rfl
 unfold csV
 simp only []
 generalize hp : parts ⟨k, n, re, im, c, m⟩ = p at *
 by_cases hk : k = 1
 · have hO : own k = 1 := by unfold own; rw [if_pos hk]
   have hz := key1 (decide (n = 0)) (decide (re = 0 ∧ im = 0)) (decide (c = e0)) (decide (m = e0))
   rw [← hpb] at hz
   rw [hO] at O
   by_cases hg : re = 0 ∧ im = 0 ∧ c = e0 ∧ m = e0
   · have hz' : (bits .andNot .i64 p 1 == 0) = true := by rw [hz]; simp [hg]
     clear hz
     have HE : Hid (ckCs ⟨k, n, re, im, c, m⟩ = 0) := by show _ = _; unfold ckCs; rw [if_pos hk]; rw [if_pos hg]
     clear hg hpb hk
     go_enter Tryz.func36, Tryz.ntmps36
     go_wp2_with fail
     refine O.mono ?_
     rintro e w1 ⟨rfl, rfl⟩
     go_wp2_with fail
     refine P.mono ?_
     rintro e w1 ⟨rfl, f1⟩
     have F1 : Hid (Fr no w w1) := HF.out.trans f1 (fun _ _ f => f) (fun _ _ f => f)
     have c0 := f1.cell C3 (fun f => f)
     have c1 := f1.cell C4 (fun f => f)
     clear f1
     go_wp2_with fail
     go_ret
     rw [HE.out]
     exact ⟨rfl, F1.out⟩
   · have hz' : (bits .andNot .i64 p 1 == 0) = false := by rw [hz]; simp; intros; simp_all
     clear hz
     have HE : Hid (ckCs ⟨k, n, re, im, c, m⟩ = 51) := by show _ = _; unfold ckCs; rw [if_pos hk]; rw [if_neg hg]
     clear hg hpb hk
     go_enter Tryz.func36, Tryz.ntmps36
     go_wp2_with fail
     refine O.mono ?_
     rintro e w1 ⟨rfl, rfl⟩
     go_wp2_with fail
     refine P.mono ?_
     rintro e w1 ⟨rfl, f1⟩
     have F1 : Hid (Fr no w w1) := HF.out.trans f1 (fun _ _ f => f) (fun _ _ f => f)
     have c0 := f1.cell C3 (fun f => f)
     have c1 := f1.cell C4 (fun f => f)
     clear f1
     go_wp2_with fail
     go_ret
     rw [HE.out]
     exact ⟨rfl, F1.out⟩
 have h1 := hk
 clear hk
 by_cases hk : k = 2
 · have hO : own k = 2 := by unfold own; rw [if_neg h1, if_pos hk]
   have hz := key2 (decide (n = 0)) (decide (re = 0 ∧ im = 0)) (decide (c = e0)) (decide (m = e0))
   rw [← hpb] at hz
   rw [hO] at O
   by_cases hg : n = 0 ∧ c = e0 ∧ m = e0
   · have hz' : (bits .andNot .i64 p 2 == 0) = true := by rw [hz]; simp [hg]
     clear hz
     have HE : Hid (ckCs ⟨k, n, re, im, c, m⟩ = 0) := by show _ = _; unfold ckCs; rw [if_neg h1, if_pos hk]; rw [if_pos hg]
     clear hg hpb hk
     go_enter Tryz.func36, Tryz.ntmps36
     go_wp2_with fail
     refine O.mono ?_
     rintro e w1 ⟨rfl, rfl⟩
     go_wp2_with fail
     refine P.mono ?_
     rintro e w1 ⟨rfl, f1⟩
     have F1 : Hid (Fr no w w1) := HF.out.trans f1 (fun _ _ f => f) (fun _ _ f => f)
     have c0 := f1.cell C3 (fun f => f)
     have c1 := f1.cell C4 (fun f => f)
     clear f1
     go_wp2_with fail
     go_ret
     rw [HE.out]
     exact ⟨rfl, F1.out⟩
   · have hz' : (bits .andNot .i64 p 2 == 0) = false := by rw [hz]; simp; intros; simp_all
     clear hz
     have HE : Hid (ckCs ⟨k, n, re, im, c, m⟩ = 51) := by show _ = _; unfold ckCs; rw [if_neg h1, if_pos hk]; rw [if_neg hg]
     clear hg hpb hk
     go_enter Tryz.func36, Tryz.ntmps36
     go_wp2_with fail
     refine O.mono ?_
     rintro e w1 ⟨rfl, rfl⟩
     go_wp2_with fail
     refine P.mono ?_
     rintro e w1 ⟨rfl, f1⟩
     have F1 : Hid (Fr no w w1) := HF.out.trans f1 (fun _ _ f => f) (fun _ _ f => f)
     have c0 := f1.cell C3 (fun f => f)
     have c1 := f1.cell C4 (fun f => f)
     clear f1
     go_wp2_with fail
     go_ret
     rw [HE.out]
     exact ⟨rfl, F1.out⟩
 have h2 := hk
 clear hk
 by_cases hk : k = 3
 · have hO : own k = 4 := by unfold own; rw [if_neg h1, if_neg h2, if_pos hk]
   have hz := key4 (decide (n = 0)) (decide (re = 0 ∧ im = 0)) (decide (c = e0)) (decide (m = e0))
   rw [← hpb] at hz
   rw [hO] at O
   by_cases hg : n = 0 ∧ re = 0 ∧ im = 0 ∧ m = e0
   · have hz' : (bits .andNot .i64 p 4 == 0) = true := by rw [hz]; simp [hg]
     clear hz
     by_cases hn : isName c = true
     · have HE : Hid (ckCs ⟨k, n, re, im, c, m⟩ = 0) := by show _ = _; unfold ckCs; rw [if_neg h1, if_neg h2, if_pos hk]; rw [if_pos hg, if_pos hn]
       rw [hn] at NC
       clear hg hpb hk
       go_enter Tryz.func36, Tryz.ntmps36
       go_wp2_with fail
       refine O.mono ?_
       rintro e w1 ⟨rfl, rfl⟩
       go_wp2_with fail
       refine P.mono ?_
       rintro e w1 ⟨rfl, f1⟩
       have F1 : Hid (Fr no w w1) := HF.out.trans f1 (fun _ _ f => f) (fun _ _ f => f)
       have c0 := f1.cell C3 (fun f => f)
       have c1 := f1.cell C4 (fun f => f)
       clear f1
       go_wp2_with fail
       refine (NC w1).mono ?_
       rintro e w2 ⟨rfl, rfl⟩
       go_wp2_with fail
       go_ret
       rw [HE.out]
       exact ⟨rfl, F1.out⟩
     · have HE : Hid (ckCs ⟨k, n, re, im, c, m⟩ = 50) := by show _ = _; unfold ckCs; rw [if_neg h1, if_neg h2, if_pos hk]; rw [if_pos hg, if_neg hn]
       have hn' : isName c = false := by simpa using hn
       rw [hn'] at NC
       clear hg hpb hk
       go_enter Tryz.func36, Tryz.ntmps36
       go_wp2_with fail
       refine O.mono ?_
       rintro e w1 ⟨rfl, rfl⟩
       go_wp2_with fail
       refine P.mono ?_
       rintro e w1 ⟨rfl, f1⟩
       have F1 : Hid (Fr no w w1) := HF.out.trans f1 (fun _ _ f => f) (fun _ _ f => f)
       have c0 := f1.cell C3 (fun f => f)
       have c1 := f1.cell C4 (fun f => f)
       clear f1
       go_wp2_with fail
       refine (NC w1).mono ?_
       rintro e w2 ⟨rfl, rfl⟩
       go_wp2_with fail
       go_ret
       rw [HE.out]
       exact ⟨rfl, F1.out⟩
   · have hz' : (bits .andNot .i64 p 4 == 0) = false := by rw [hz]; simp; intros; simp_all
     clear hz
     have HE : Hid (ckCs ⟨k, n, re, im, c, m⟩ = 51) := by show _ = _; unfold ckCs; rw [if_neg h1, if_neg h2, if_pos hk]; rw [if_neg hg]
     clear hg hpb hk
     go_enter Tryz.func36, Tryz.ntmps36
     go_wp2_with fail
     refine O.mono ?_
     rintro e w1 ⟨rfl, rfl⟩
     go_wp2_with fail
     refine P.mono ?_
     rintro e w1 ⟨rfl, f1⟩
     have F1 : Hid (Fr no w w1) := HF.out.trans f1 (fun _ _ f => f) (fun _ _ f => f)
     have c0 := f1.cell C3 (fun f => f)
     have c1 := f1.cell C4 (fun f => f)
     clear f1
     go_wp2_with fail
     go_ret
     rw [HE.out]
     exact ⟨rfl, F1.out⟩
 have h3 := hk
 clear hk
 by_cases hk : k = 4 ∨ k = 5
 · have hO : own k = 12 := by unfold own; rw [if_neg h1, if_neg h2, if_neg h3, if_pos hk]
   have hz := key12 (decide (n = 0)) (decide (re = 0 ∧ im = 0)) (decide (c = e0)) (decide (m = e0))
   rw [← hpb] at hz
   rw [hO] at O
   by_cases hg : n = 0 ∧ re = 0 ∧ im = 0
   · have hz' : (bits .andNot .i64 p 12 == 0) = true := by rw [hz]; simp [hg]
     clear hz
     by_cases hn : isName c = true
     · by_cases hn2 : isName m = true
       · have HE : Hid (ckCs ⟨k, n, re, im, c, m⟩ = 0) := by show _ = _; unfold ckCs; rw [if_neg h1, if_neg h2, if_neg h3, if_pos hk]; rw [if_pos hg, if_pos ⟨hn, hn2⟩]
         rw [hn] at NC
         rw [hn2] at NM
         clear hg hpb hk
         go_enter Tryz.func36, Tryz.ntmps36
         go_wp2_with fail
         refine O.mono ?_
         rintro e w1 ⟨rfl, rfl⟩
         go_wp2_with fail
         refine P.mono ?_
         rintro e w1 ⟨rfl, f1⟩
         have F1 : Hid (Fr no w w1) := HF.out.trans f1 (fun _ _ f => f) (fun _ _ f => f)
         have c0 := f1.cell C3 (fun f => f)
         have c1 := f1.cell C4 (fun f => f)
         clear f1
         go_wp2_with fail
         refine (NC w1).mono ?_
         rintro e w2 ⟨rfl, rfl⟩
         go_wp2_with fail
         refine (NM w2).mono ?_
         rintro e w3 ⟨rfl, rfl⟩
         go_wp2_with fail
         go_ret
         rw [HE.out]
         exact ⟨rfl, F1.out⟩
       · have HE : Hid (ckCs ⟨k, n, re, im, c, m⟩ = 50) := by show _ = _; unfold ckCs; rw [if_neg h1, if_neg h2, if_neg h3, if_pos hk]; rw [if_pos hg, if_neg (fun h => hn2 h.2)]
         have hn' : isName m = false := by simpa using hn2
         rw [hn] at NC
         rw [hn'] at NM
         clear hg hpb hk
         go_enter Tryz.func36, Tryz.ntmps36
         go_wp2_with fail
         refine O.mono ?_
         rintro e w1 ⟨rfl, rfl⟩
         go_wp2_with fail
         refine P.mono ?_
         rintro e w1 ⟨rfl, f1⟩
         have F1 : Hid (Fr no w w1) := HF.out.trans f1 (fun _ _ f => f) (fun _ _ f => f)
         have c0 := f1.cell C3 (fun f => f)
         have c1 := f1.cell C4 (fun f => f)
         clear f1
         go_wp2_with fail
         refine (NC w1).mono ?_
         rintro e w2 ⟨rfl, rfl⟩
         go_wp2_with fail
         refine (NM w2).mono ?_
         rintro e w3 ⟨rfl, rfl⟩
         go_wp2_with fail
         go_ret
         rw [HE.out]
         exact ⟨rfl, F1.out⟩
     · have HE : Hid (ckCs ⟨k, n, re, im, c, m⟩ = 50) := by show _ = _; unfold ckCs; rw [if_neg h1, if_neg h2, if_neg h3, if_pos hk]; rw [if_pos hg, if_neg (fun h => hn h.1)]
       have hn' : isName c = false := by simpa using hn
       rw [hn'] at NC
       clear hg hpb hk
       go_enter Tryz.func36, Tryz.ntmps36
       go_wp2_with fail
       refine O.mono ?_
       rintro e w1 ⟨rfl, rfl⟩
       go_wp2_with fail
       refine P.mono ?_
       rintro e w1 ⟨rfl, f1⟩
       have F1 : Hid (Fr no w w1) := HF.out.trans f1 (fun _ _ f => f) (fun _ _ f => f)
       have c0 := f1.cell C3 (fun f => f)
       have c1 := f1.cell C4 (fun f => f)
       clear f1
       go_wp2_with fail
       refine (NC w1).mono ?_
       rintro e w2 ⟨rfl, rfl⟩
       go_wp2_with fail
       go_ret
       rw [HE.out]
       exact ⟨rfl, F1.out⟩
   · have hz' : (bits .andNot .i64 p 12 == 0) = false := by rw [hz]; simp; intros; simp_all
     clear hz
     have HE : Hid (ckCs ⟨k, n, re, im, c, m⟩ = 51) := by show _ = _; unfold ckCs; rw [if_neg h1, if_neg h2, if_neg h3, if_pos hk]; rw [if_neg hg]
     clear hg hpb hk
     go_enter Tryz.func36, Tryz.ntmps36
     go_wp2_with fail
     refine O.mono ?_
     rintro e w1 ⟨rfl, rfl⟩
     go_wp2_with fail
     refine P.mono ?_
     rintro e w1 ⟨rfl, f1⟩
     have F1 : Hid (Fr no w w1) := HF.out.trans f1 (fun _ _ f => f) (fun _ _ f => f)
     have c0 := f1.cell C3 (fun f => f)
     have c1 := f1.cell C4 (fun f => f)
     clear f1
     go_wp2_with fail
     go_ret
     rw [HE.out]
     exact ⟨rfl, F1.out⟩
 have h4 := hk
 clear hk
 have hO : own k = 0 := by unfold own; rw [if_neg h1, if_neg h2, if_neg h3, if_neg h4]
 rw [hO] at O
 have HE : Hid (ckCs ⟨k, n, re, im, c, m⟩ = 51) := by show _ = _; unfold ckCs; rw [if_neg h1, if_neg h2, if_neg h3, if_neg h4]
 go_enter Tryz.func36, Tryz.ntmps36
 go_wp2_with fail
 refine O.mono ?_
 rintro e w1 ⟨rfl, rfl⟩
 go_wp2_with fail
 go_ret
 rw [HE.out]
 exact ⟨rfl, HF.out⟩
end Go.Proofs.YtalgjpmaafooeaaGreatDoor
/- Whether a list has one of that name. -/
namespace Go.Proofs.YtalgjpmaafooeaaGreatDoor
open Go.ChangeShapes Go.WideShapes Go.ChangeAt Go.RowKit
def BoxFd (w : World) (q : Nat) (y : Fd) : Prop := w.heap[q]? = some (.cells #[.string y.name, .int .i64 y.ty.k, .string y.ty.c, .bool y.vol] 109 (0, 0))
theorem BoxFd.kept {w w' : World} {q : Nat} {y : Fd} (h : BoxFd w q y) (hf : Fr no w w') : BoxFd w' q y := hf.heap h (fun f => f)
theorem nameEqFd_any (w : World) (q : Nat) (y : Fd) (hq : BoxFd w q y) (x : Fd) : Calls Tryz.prog 67 #[.agg #[.string x.name, .int .i64 x.ty.k, .string x.ty.c, .bool x.vol], .pointer (some ⟨q, 0, none⟩)] w fun e w' => e = .returned (.bool (decide (x.name = y.name))) ∧ Fr no w w' := by
 have HF : Hid (Fr no w (w.alloc (.cells #[.string x.name, .int .i64 x.ty.k, .string x.ty.c, .bool x.vol] 109))) := (Fr.refl no w).alloc _ _
 have hq' : (w.alloc (.cells #[.string x.name, .int .i64 x.ty.k, .string x.ty.c, .bool x.vol] 109)).cell? ⟨q, 0, none⟩ = some (.string y.name) := by
  have := hq.kept HF.out
  unfold BoxFd at this
  simp [World.cell?, this]
 have hne : ¬ w.heap.size = q := fun e => by
  have := lt_of_heap hq
  omega
 clear hq
 by_cases h : x.name = y.name
 · rw [decide_eq_true h]
   have hs : (x.name.toList == y.name.toList) = true := by rw [h]; simp
   clear h
   go_enter Tryz.func67, Tryz.ntmps67
   go_wp2_with fail
   go_ret
   exact ⟨by first | rfl | (simp [hs]; done) | (simp at hs; simp [hs]; done), HF.out⟩
 · rw [decide_eq_false h]
   have hs : (x.name.toList == y.name.toList) = false := by
    rw [ByteArray.toList_eq, ByteArray.toList_eq]
    simp only [beq_eq_false_iff_ne, ne_eq]
    intro e
    exact h (ByteArray.ext (by simpa using congrArg List.toArray e))
   go_enter Tryz.func67, Tryz.ntmps67
   go_wp2_with fail
   go_ret
   exact ⟨by first | rfl | (simp [hs]; done), HF.out⟩
set_option maxRecDepth 100000 in
set_option maxHeartbeats 1000000 in
theorem indexFd_any (w : World) (v : Value) (l : List Fd) (h : SlG elFd w v l) (q : Nat) (y : Fd) (hq : BoxFd w q y) :
 Calls Tryz.prog 101 #[v, .func (.func 67) #[] #[.pointer (some ⟨q, 0, none⟩)]] w fun e w' => ∃ z : Int, e = .returned (.int .i64 z) ∧ (decide (0 ≤ z) = l.any fun x => decide (x.name = y.name)) ∧ Fr no w w' := by
 obtain ⟨ad, cp, rfl, hcap, hmx, hit⟩ := h
 unfold maxLen at hmx
 have HI : Hid (∀ (i : Nat) (x : Fd), l[i]? = some x → ∃ b off, ad = some ⟨b, off, none⟩ ∧ ∀ (j : Nat) (u : Value), (elFd.f x)[j]? = some u → w.cell? ⟨b, off + i * 4 + j, none⟩ = some u) := hit
 have HQ : Hid (BoxFd w q y) := hq
 clear hit hq
 go_enter Tryz.func101, Tryz.ntmps101
 go_wp2_with fail
 go_loopw [8] (fun i wr => ∃ (k : Nat), i = .int .i64 (k : Int) ∧ k ≤ l.length ∧ Fr no w wr ∧ ((l.take k).any fun x => decide (x.name = y.name)) = false) (fun i _ => l.length - (intOf i).toNat)
 case atStart => exact ⟨0, rfl, by omega, Fr.refl _ _, by simp⟩
 case round =>
  obtain ⟨k, rfl, hk, hw, hall⟩ := hrel
  have HA : Hid (((l.take k).any fun x => decide (x.name = y.name)) = false) := hall
  clear hall
  by_cases hlt : k < l.length
  · obtain ⟨x, hx⟩ : ∃ x, l[k]? = some x := ⟨_, List.getElem?_eq_getElem hlt⟩
    obtain ⟨b, off, rfl, hc⟩ := HI.out k x hx
    have HX : Hid (l[k]? = some x) := hx
    clear hx
    have hlt' : (k : Int) < (l.length : Int) := by omega
    have c0 : wr.cell? ⟨b, off + k * 4, none⟩ = some (.string x.name) := hw.cell (hc 0 _ rfl) (fun f => f)
    have c1 : wr.cell? ⟨b, off + k * 4 + 1, none⟩ = some (.int .i64 x.ty.k) := hw.cell (hc 1 _ rfl) (fun f => f)
    have c2 : wr.cell? ⟨b, off + k * 4 + 2, none⟩ = some (.string x.ty.c) := hw.cell (hc 2 _ rfl) (fun f => f)
    have c3 : wr.cell? ⟨b, off + k * 4 + 3, none⟩ = some (.bool x.vol) := hw.cell (hc 3 _ rfl) (fun f => f)
    have E := nameEqFd_any wr q y (HQ.out.kept hw) x
    have HW : Hid (Fr no w wr) := hw
    clear hc hw
    by_cases hn : x.name = y.name
    · rw [decide_eq_true hn] at E
      have HT : Hid ((l.any fun x => decide (x.name = y.name)) = true) := List.any_eq_true.2 ⟨x, List.mem_of_getElem? HX.out, decide_eq_true hn⟩
      clear hn
      go_wp2_with fail
      refine E.mono ?_
      rintro e w2 ⟨rfl, f2⟩
      go_wp2_with fail
      go_ret
      refine ⟨_, rfl, ?_, HW.out.new f2 (fun _ _ f => f)⟩
      rw [HT.out]
      simp
    · rw [decide_eq_false hn] at E
      have HT : Hid (((l.take (k + 1)).any fun x => decide (x.name = y.name)) = false) := by
       show _ = _
       rw [take_next l k x HX.out, List.any_append, HA.out]
       simp [hn]
      clear hn
      go_wp2_with fail
      refine E.mono ?_
      rintro e w2 ⟨rfl, f2⟩
      go_wp2_with fail
      go_roundw
      case rel => exact ⟨k + 1, by go_num, by omega, HW.out.new f2 (fun _ _ f => f), HT.out⟩
      case measure => simp [intOf]; omega
  · have hkl : k = l.length := by omega
    subst hkl
    have HT : Hid ((l.any fun x => decide (x.name = y.name)) = false) := by
     have := HA.out
     rwa [List.take_length] at this
    go_wp2_with fail
    go_ret
    refine ⟨_, rfl, ?_, hw⟩
    rw [HT.out]
    rfl
theorem containsFd_any (w : World) (v : Value) (l : List Fd) (h : SlG elFd w v l) (q : Nat) (y : Fd) (hq : BoxFd w q y) :
 Calls Tryz.prog 66 #[v, .func (.func 67) #[] #[.pointer (some ⟨q, 0, none⟩)]] w fun e w' => e = .returned (.bool (l.any fun x => decide (x.name = y.name))) ∧ Fr no w w' := by
 go_enter Tryz.func66, Tryz.ntmps66
 go_wp2_with fail
 refine (indexFd_any w v l h q y hq).mono ?_
 rintro e w1 ⟨z, rfl, hz, f1⟩
 have HZ : Hid (decide (0 ≤ z) = l.any fun x => decide (x.name = y.name)) := hz
 clear hz
 go_wp2_with fail
 go_ret
 rw [← HZ.out]
 exact ⟨rfl, f1⟩
def BoxMs (w : World) (q : Nat) (y : Ms) : Prop := w.heap[q]? = some (.cells #[.string y.name, .slice y.p.a y.p.n y.p.c, .int .i64 y.ret.k, .string y.ret.c, .int .i64 y.lo, .int .i64 y.st, .slice y.c.a y.c.n y.c.c, .slice y.h.a y.h.n y.h.c] 47 (0, 0))
theorem BoxMs.kept {w w' : World} {q : Nat} {y : Ms} (h : BoxMs w q y) (hf : Fr no w w') : BoxMs w' q y := hf.heap h (fun f => f)
theorem nameEqMs_any (w : World) (q : Nat) (y : Ms) (hq : BoxMs w q y) (x : Ms) : Calls Tryz.prog 71 #[.agg #[.string x.name, .slice x.p.a x.p.n x.p.c, .int .i64 x.ret.k, .string x.ret.c, .int .i64 x.lo, .int .i64 x.st, .slice x.c.a x.c.n x.c.c, .slice x.h.a x.h.n x.h.c], .pointer (some ⟨q, 0, none⟩)] w fun e w' => e = .returned (.bool (decide (x.name = y.name))) ∧ Fr no w w' := by
 have HF : Hid (Fr no w (w.alloc (.cells #[.string x.name, .slice x.p.a x.p.n x.p.c, .int .i64 x.ret.k, .string x.ret.c, .int .i64 x.lo, .int .i64 x.st, .slice x.c.a x.c.n x.c.c, .slice x.h.a x.h.n x.h.c] 47))) := (Fr.refl no w).alloc _ _
 have hq' : (w.alloc (.cells #[.string x.name, .slice x.p.a x.p.n x.p.c, .int .i64 x.ret.k, .string x.ret.c, .int .i64 x.lo, .int .i64 x.st, .slice x.c.a x.c.n x.c.c, .slice x.h.a x.h.n x.h.c] 47)).cell? ⟨q, 0, none⟩ = some (.string y.name) := by
  have := hq.kept HF.out
  unfold BoxMs at this
  simp [World.cell?, this]
 have hne : ¬ w.heap.size = q := fun e => by
  have := lt_of_heap hq
  omega
 clear hq
 by_cases h : x.name = y.name
 · rw [decide_eq_true h]
   have hs : (x.name.toList == y.name.toList) = true := by rw [h]; simp
   clear h
   go_enter Tryz.func71, Tryz.ntmps71
   go_wp2_with fail
   go_ret
   exact ⟨by first | rfl | (simp [hs]; done) | (simp at hs; simp [hs]; done), HF.out⟩
 · rw [decide_eq_false h]
   have hs : (x.name.toList == y.name.toList) = false := by
    rw [ByteArray.toList_eq, ByteArray.toList_eq]
    simp only [beq_eq_false_iff_ne, ne_eq]
    intro e
    exact h (ByteArray.ext (by simpa using congrArg List.toArray e))
   go_enter Tryz.func71, Tryz.ntmps71
   go_wp2_with fail
   go_ret
   exact ⟨by first | rfl | (simp [hs]; done), HF.out⟩
set_option maxRecDepth 100000 in
set_option maxHeartbeats 1000000 in
theorem indexMs_any (w : World) (v : Value) (l : List Ms) (h : SlG elMs w v l) (q : Nat) (y : Ms) (hq : BoxMs w q y) :
 Calls Tryz.prog 54 #[v, .func (.func 71) #[] #[.pointer (some ⟨q, 0, none⟩)]] w fun e w' => ∃ z : Int, e = .returned (.int .i64 z) ∧ (decide (0 ≤ z) = l.any fun x => decide (x.name = y.name)) ∧ Fr no w w' := by
 obtain ⟨ad, cp, rfl, hcap, hmx, hit⟩ := h
 unfold maxLen at hmx
 have HI : Hid (∀ (i : Nat) (x : Ms), l[i]? = some x → ∃ b off, ad = some ⟨b, off, none⟩ ∧ ∀ (j : Nat) (u : Value), (elMs.f x)[j]? = some u → w.cell? ⟨b, off + i * 8 + j, none⟩ = some u) := hit
 have HQ : Hid (BoxMs w q y) := hq
 clear hit hq
 go_enter Tryz.func54, Tryz.ntmps54
 go_wp2_with fail
 go_loopw [8] (fun i wr => ∃ (k : Nat), i = .int .i64 (k : Int) ∧ k ≤ l.length ∧ Fr no w wr ∧ ((l.take k).any fun x => decide (x.name = y.name)) = false) (fun i _ => l.length - (intOf i).toNat)
 case atStart => exact ⟨0, rfl, by omega, Fr.refl _ _, by simp⟩
 case round =>
  obtain ⟨k, rfl, hk, hw, hall⟩ := hrel
  have HA : Hid (((l.take k).any fun x => decide (x.name = y.name)) = false) := hall
  clear hall
  by_cases hlt : k < l.length
  · obtain ⟨x, hx⟩ : ∃ x, l[k]? = some x := ⟨_, List.getElem?_eq_getElem hlt⟩
    obtain ⟨b, off, rfl, hc⟩ := HI.out k x hx
    have HX : Hid (l[k]? = some x) := hx
    clear hx
    have hlt' : (k : Int) < (l.length : Int) := by omega
    have c0 : wr.cell? ⟨b, off + k * 8, none⟩ = some (.string x.name) := hw.cell (hc 0 _ rfl) (fun f => f)
    have c1 : wr.cell? ⟨b, off + k * 8 + 1, none⟩ = some (.slice x.p.a x.p.n x.p.c) := hw.cell (hc 1 _ rfl) (fun f => f)
    have c2 : wr.cell? ⟨b, off + k * 8 + 2, none⟩ = some (.int .i64 x.ret.k) := hw.cell (hc 2 _ rfl) (fun f => f)
    have c3 : wr.cell? ⟨b, off + k * 8 + 3, none⟩ = some (.string x.ret.c) := hw.cell (hc 3 _ rfl) (fun f => f)
    have c4 : wr.cell? ⟨b, off + k * 8 + 4, none⟩ = some (.int .i64 x.lo) := hw.cell (hc 4 _ rfl) (fun f => f)
    have c5 : wr.cell? ⟨b, off + k * 8 + 5, none⟩ = some (.int .i64 x.st) := hw.cell (hc 5 _ rfl) (fun f => f)
    have c6 : wr.cell? ⟨b, off + k * 8 + 6, none⟩ = some (.slice x.c.a x.c.n x.c.c) := hw.cell (hc 6 _ rfl) (fun f => f)
    have c7 : wr.cell? ⟨b, off + k * 8 + 7, none⟩ = some (.slice x.h.a x.h.n x.h.c) := hw.cell (hc 7 _ rfl) (fun f => f)
    have E := nameEqMs_any wr q y (HQ.out.kept hw) x
    have HW : Hid (Fr no w wr) := hw
    clear hc hw
    by_cases hn : x.name = y.name
    · rw [decide_eq_true hn] at E
      have HT : Hid ((l.any fun x => decide (x.name = y.name)) = true) := List.any_eq_true.2 ⟨x, List.mem_of_getElem? HX.out, decide_eq_true hn⟩
      clear hn
      go_wp2_with fail
      refine E.mono ?_
      rintro e w2 ⟨rfl, f2⟩
      go_wp2_with fail
      go_ret
      refine ⟨_, rfl, ?_, HW.out.new f2 (fun _ _ f => f)⟩
      rw [HT.out]
      simp
    · rw [decide_eq_false hn] at E
      have HT : Hid (((l.take (k + 1)).any fun x => decide (x.name = y.name)) = false) := by
       show _ = _
       rw [take_next l k x HX.out, List.any_append, HA.out]
       simp [hn]
      clear hn
      go_wp2_with fail
      refine E.mono ?_
      rintro e w2 ⟨rfl, f2⟩
      go_wp2_with fail
      go_roundw
      case rel => exact ⟨k + 1, by go_num, by omega, HW.out.new f2 (fun _ _ f => f), HT.out⟩
      case measure => simp [intOf]; omega
  · have hkl : k = l.length := by omega
    subst hkl
    have HT : Hid ((l.any fun x => decide (x.name = y.name)) = false) := by
     have := HA.out
     rwa [List.take_length] at this
    go_wp2_with fail
    go_ret
    refine ⟨_, rfl, ?_, hw⟩
    rw [HT.out]
    rfl
theorem containsMs_any (w : World) (v : Value) (l : List Ms) (h : SlG elMs w v l) (q : Nat) (y : Ms) (hq : BoxMs w q y) :
 Calls Tryz.prog 70 #[v, .func (.func 71) #[] #[.pointer (some ⟨q, 0, none⟩)]] w fun e w' => e = .returned (.bool (l.any fun x => decide (x.name = y.name))) ∧ Fr no w w' := by
 go_enter Tryz.func70, Tryz.ntmps70
 go_wp2_with fail
 refine (indexMs_any w v l h q y hq).mono ?_
 rintro e w1 ⟨z, rfl, hz, f1⟩
 have HZ : Hid (decide (0 ≤ z) = l.any fun x => decide (x.name = y.name)) := hz
 clear hz
 go_wp2_with fail
 go_ret
 rw [← HZ.out]
 exact ⟨rfl, f1⟩
end Go.Proofs.YtalgjpmaafooeaaGreatDoor
/- The first error of a list. -/
namespace Go.Proofs.YtalgjpmaafooeaaGreatDoor
open Go.ChangeShapes Go.WideShapes Go.ChangeAt Go.RowKit
def EachCsAt (w0 : World) (v : Value) (most : Int) (fv : Value) (ask : Cs → List Cs → Nat) (l : List Cs) (a : Act) (w : World) : Prop :=
 ∃ (k : Nat) (u3 u4 u5 u6 u7 u8 u9 u10 u11 u12 u13 u14 u15 u16 u17 u18 u19 u20 u21 u22 u23 u24 u25 u26 u27 u28 u29 u30 : Value), a = { tmps := #[v, .int .i64 most, fv, u3, u4, u5, u6, u7, u8, u9, u10, u11, u12, u13, u14, u15, u16, u17, u18, u19, u20, u21, u22, u23, u24, u25, u26, u27, u28, u29, u30], defers := [] } ∧ u7 = .int .i64 (k : Int) ∧ Fr no w0 w ∧ k ≤ l.length ∧ l.length ≤ most.toNat ∧ firstE ask (l.take k) (l.drop k) = firstE ask [] l
set_option maxRecDepth 100000 in
set_option maxHeartbeats 2000000 in
theorem eachCs_any (w : World) (v : Value) (l : List Cs) (h : SlG elCs w v l) (most : Nat) (hmost : most ≤ 1000) (ask : Cs → List Cs → Nat)
 (ASK : ∀ w' v' k x, Fr no w w' → l[k]? = some x → SlG elCs w' v' (l.take k) → Calls Tryz.prog 36 #[.agg #[.int .i64 x.k, .int .i64 x.n, .complex .f64 x.re x.im, .string x.c, .string x.m], v'] w' fun e w2 => e = .returned (.int .i64 (ask x (l.take k) : Int)) ∧ Fr no w' w2) :
 Calls Tryz.prog 35 #[v, .int .i64 (most : Int), .func (.func 36) #[] #[]] w fun e w' => e = .returned (.int .i64 (eachE most ask l : Int)) ∧ Fr no w w' := by
 have H0 := h
 obtain ⟨ad, cp, rfl, hcap, hmx, hit⟩ := h
 unfold maxLen at hmx
 have HI : Hid (∀ (i : Nat) (x : Cs), l[i]? = some x → ∃ b off, ad = some ⟨b, off, none⟩ ∧ ∀ (j : Nat) (u : Value), (elCs.f x)[j]? = some u → w.cell? ⟨b, off + i * elCs.n + j, none⟩ = some u) := hit
 have HS : Hid (SlG elCs w (.slice ad l.length cp) l) := H0
 have HASK : Hid (∀ w' v' k x, Fr no w w' → l[k]? = some x → SlG elCs w' v' (l.take k) → Calls Tryz.prog 36 #[.agg #[.int .i64 x.k, .int .i64 x.n, .complex .f64 x.re x.im, .string x.c, .string x.m], v'] w' fun e w2 => e = .returned (.int .i64 (ask x (l.take k) : Int)) ∧ Fr no w' w2) := ASK
 clear hit H0 ASK
 go_enter Tryz.func35, Tryz.ntmps35
 go_wp2_with fail
 refine wp_label_one 0 (EachCsAt w (.slice ad l.length cp) (most : Int) (.func (.func 36) #[] #[]) ask l) (fun a' _ => l.length - (intOf (a'.tmps.getD 7 undef)).toNat) rfl ?_ ?_
 · intro K h0 hr hn'
   by_cases hbig : most < l.length
   · have HE : Hid (eachE most ask l = 32) := by show _ = _; unfold eachE; rw [if_pos hbig]
     go_wp2_with fail
     refine hr _ _ ?_
     go_ret
     rw [HE.out]
     exact ⟨rfl, Fr.refl _ _⟩
   · have hbig' : ¬ (most : Int) < (l.length : Int) := by omega
     go_wp2_with fail
     go_step3
     rename_i hk
     exact hk _ _ (h0 _ _ ⟨0, _, _, _, _, _, _, _, _, _, _, _, _, _, _, _, _, _, _, _, _, _, _, _, _, _, _, _, _, rfl, rfl, Fr.refl _ _, by omega, by omega, rfl⟩)
 · rintro a' w' ⟨k, u3, u4, u5, u6, u7, u8, u9, u10, u11, u12, u13, u14, u15, u16, u17, u18, u19, u20, u21, u22, u23, u24, u25, u26, u27, u28, u29, u30, rfl, rfl, hw, hk, hlm, hF⟩ K hj hr hn'
   have HFE : Hid (firstE ask (l.take k) (l.drop k) = firstE ask [] l) := hF
   have HEE : Hid (eachE most ask l = firstE ask [] l) := by show _ = _; unfold eachE; rw [if_neg (by omega)]
   clear hF
   by_cases hend : k = l.length
   · subst hend
     have HE : Hid (eachE most ask l = 0) := by
      show _ = _
      rw [HEE.out, ← HFE.out, List.drop_length]
      rfl
     go_wp2_with fail
     refine hr _ _ ?_
     go_ret
     rw [HE.out]
     exact ⟨rfl, hw⟩
   · have hlt : k < l.length := by omega
     have hne : ((k : Int) == (l.length : Int)) = false := by simp; omega
     have hkc : (k : Int) ≤ (cp : Int) := by omega
     have hk0 : (0 : Int) ≤ (k : Int) := by omega
     obtain ⟨x, hx⟩ : ∃ x, l[k]? = some x := ⟨_, List.getElem?_eq_getElem hlt⟩
     obtain ⟨b, off, rfl, hc0⟩ := HI.out k x hx
     have hc : ∀ (j : Nat) (u : Value), (elCs.f x)[j]? = some u → w.cell? ⟨b, off + k * 5 + j, none⟩ = some u := hc0
     clear hc0
     have c0 : w'.cell? ⟨b, off + k * 5, none⟩ = some (.int .i64 x.k) := hw.cell (hc 0 _ rfl) (fun f => f)
     have c1 : w'.cell? ⟨b, off + k * 5 + 1, none⟩ = some (.int .i64 x.n) := hw.cell (hc 1 _ rfl) (fun f => f)
     have c2 : w'.cell? ⟨b, off + k * 5 + 2, none⟩ = some (.complex .f64 x.re x.im) := hw.cell (hc 2 _ rfl) (fun f => f)
     have c3 : w'.cell? ⟨b, off + k * 5 + 3, none⟩ = some (.string x.c) := hw.cell (hc 3 _ rfl) (fun f => f)
     have c4 : w'.cell? ⟨b, off + k * 5 + 4, none⟩ = some (.string x.m) := hw.cell (hc 4 _ rfl) (fun f => f)
     have HW : Hid (Fr no w w') := hw
     have A := fun w2 (f2 : Fr no w' w2) => HASK.out w2 (.slice (some ⟨b, off, none⟩) k cp) k x (hw.new f2 (fun _ _ f => f)) hx ((HS.out.kept (hw.new f2 (fun _ _ f => f))).take (by omega))
     have KS : ∀ w2, Fr no w' w2 → Fr no w' w2 ∧ w2.cell? ⟨b, off + k * 5, none⟩ = some (.int .i64 x.k) ∧ w2.cell? ⟨b, off + k * 5 + 1, none⟩ = some (.int .i64 x.n) ∧ w2.cell? ⟨b, off + k * 5 + 2, none⟩ = some (.complex .f64 x.re x.im) ∧ w2.cell? ⟨b, off + k * 5 + 3, none⟩ = some (.string x.c) ∧ w2.cell? ⟨b, off + k * 5 + 4, none⟩ = some (.string x.m) := fun w2 f2 => ⟨f2, f2.cell c0 (fun f => f), f2.cell c1 (fun f => f), f2.cell c2 (fun f => f), f2.cell c3 (fun f => f), f2.cell c4 (fun f => f)⟩
     have HX : Hid (l[k]? = some x) := hx
     have hdrop : l.drop k = x :: l.drop (k + 1) := by
      have := List.drop_eq_getElem_cons hlt
      rw [this]
      have e : l[k] = x := by
       rw [List.getElem?_eq_getElem hlt] at hx
       exact Option.some.inj hx
      rw [e]
     have HN : Hid (firstE ask [] l = if ask x (l.take k) ≠ 0 then ask x (l.take k) else firstE ask (l.take (k + 1)) (l.drop (k + 1))) := by
      show _ = _
      rw [← HFE.out, hdrop, firstE, take_next l k x hx]
     clear hx hc hw hdrop
     generalize hask : ask x (l.take k) = err at *
     by_cases h0 : err = 0
     · subst h0
       go_wp2_with fail
       go_region_held3 (fun w2 => Fr no w' w2 ∧ w2.cell? ⟨b, off + k * 5, none⟩ = some (.int .i64 x.k) ∧ w2.cell? ⟨b, off + k * 5 + 1, none⟩ = some (.int .i64 x.n) ∧ w2.cell? ⟨b, off + k * 5 + 2, none⟩ = some (.complex .f64 x.re x.im) ∧ w2.cell? ⟨b, off + k * 5 + 3, none⟩ = some (.string x.c) ∧ w2.cell? ⟨b, off + k * 5 + 4, none⟩ = some (.string x.m)) (first | exact KS _ (Fr.refl no _).drew | exact KS _ f3') (first | (go_at_call 36; refine (A _ (Fr.refl no _).drew).mono ?_; rintro e w3 ⟨rfl, f3⟩; have f3' := (Fr.refl no w').drew.new f3 (fun _ _ f => f)))
       go_wp2_with fail
       go_step3
       refine hj _ _ ⟨k + 1, _, _, _, _, _, _, _, _, _, _, _, _, _, _, _, _, _, _, _, _, _, _, _, _, _, _, _, _, rfl, by go_num, HW.out.new f3' (fun _ _ f => f), by omega, by omega, ?_⟩ ?_
       · rw [HN.out, if_neg (by simp)]
       · simp [intOf]
         omega
     · have h0' : ((err : Int) == 0) = false := by simp; omega
       have HE : Hid (eachE most ask l = err) := by show _ = _; rw [HEE.out, HN.out, if_pos h0]
       go_wp2_with fail
       go_region_held3 (fun w2 => Fr no w' w2 ∧ w2.cell? ⟨b, off + k * 5, none⟩ = some (.int .i64 x.k) ∧ w2.cell? ⟨b, off + k * 5 + 1, none⟩ = some (.int .i64 x.n) ∧ w2.cell? ⟨b, off + k * 5 + 2, none⟩ = some (.complex .f64 x.re x.im) ∧ w2.cell? ⟨b, off + k * 5 + 3, none⟩ = some (.string x.c) ∧ w2.cell? ⟨b, off + k * 5 + 4, none⟩ = some (.string x.m)) (first | exact KS _ (Fr.refl no _).drew | exact KS _ f3') (first | (go_at_call 36; refine (A _ (Fr.refl no _).drew).mono ?_; rintro e w3 ⟨rfl, f3⟩; have f3' := (Fr.refl no w').drew.new f3 (fun _ _ f => f)))
       go_wp2_with fail
       refine hr _ _ ?_
       go_ret
       rw [HE.out]
       exact ⟨rfl, HW.out.new f3' (fun _ _ f => f)⟩
def EachFdAt (w0 : World) (v : Value) (most : Int) (fv : Value) (ask : Fd → List Fd → Nat) (l : List Fd) (a : Act) (w : World) : Prop :=
 ∃ (k : Nat) (u3 u4 u5 u6 u7 u8 u9 u10 u11 u12 u13 u14 u15 u16 u17 u18 u19 u20 u21 u22 u23 u24 u25 u26 u27 u28 u29 u30 : Value), a = { tmps := #[v, .int .i64 most, fv, u3, u4, u5, u6, u7, u8, u9, u10, u11, u12, u13, u14, u15, u16, u17, u18, u19, u20, u21, u22, u23, u24, u25, u26, u27, u28, u29, u30], defers := [] } ∧ u7 = .int .i64 (k : Int) ∧ Fr no w0 w ∧ k ≤ l.length ∧ l.length ≤ most.toNat ∧ firstE ask (l.take k) (l.drop k) = firstE ask [] l
set_option maxRecDepth 100000 in
set_option maxHeartbeats 2000000 in
theorem eachFd_any (w : World) (v : Value) (l : List Fd) (h : SlG elFd w v l) (most : Nat) (hmost : most ≤ 1000) (ask : Fd → List Fd → Nat)
 (ASK : ∀ w' v' k x, Fr no w w' → l[k]? = some x → SlG elFd w' v' (l.take k) → Calls Tryz.prog 38 #[.agg #[.string x.name, .int .i64 x.ty.k, .string x.ty.c, .bool x.vol], v'] w' fun e w2 => e = .returned (.int .i64 (ask x (l.take k) : Int)) ∧ Fr no w' w2) :
 Calls Tryz.prog 37 #[v, .int .i64 (most : Int), .func (.func 38) #[] #[]] w fun e w' => e = .returned (.int .i64 (eachE most ask l : Int)) ∧ Fr no w w' := by
 have H0 := h
 obtain ⟨ad, cp, rfl, hcap, hmx, hit⟩ := h
 unfold maxLen at hmx
 have HI : Hid (∀ (i : Nat) (x : Fd), l[i]? = some x → ∃ b off, ad = some ⟨b, off, none⟩ ∧ ∀ (j : Nat) (u : Value), (elFd.f x)[j]? = some u → w.cell? ⟨b, off + i * elFd.n + j, none⟩ = some u) := hit
 have HS : Hid (SlG elFd w (.slice ad l.length cp) l) := H0
 have HASK : Hid (∀ w' v' k x, Fr no w w' → l[k]? = some x → SlG elFd w' v' (l.take k) → Calls Tryz.prog 38 #[.agg #[.string x.name, .int .i64 x.ty.k, .string x.ty.c, .bool x.vol], v'] w' fun e w2 => e = .returned (.int .i64 (ask x (l.take k) : Int)) ∧ Fr no w' w2) := ASK
 clear hit H0 ASK
 go_enter Tryz.func37, Tryz.ntmps37
 go_wp2_with fail
 refine wp_label_one 0 (EachFdAt w (.slice ad l.length cp) (most : Int) (.func (.func 38) #[] #[]) ask l) (fun a' _ => l.length - (intOf (a'.tmps.getD 7 undef)).toNat) rfl ?_ ?_
 · intro K h0 hr hn'
   by_cases hbig : most < l.length
   · have HE : Hid (eachE most ask l = 32) := by show _ = _; unfold eachE; rw [if_pos hbig]
     go_wp2_with fail
     refine hr _ _ ?_
     go_ret
     rw [HE.out]
     exact ⟨rfl, Fr.refl _ _⟩
   · have hbig' : ¬ (most : Int) < (l.length : Int) := by omega
     go_wp2_with fail
     go_step3
     rename_i hk
     exact hk _ _ (h0 _ _ ⟨0, _, _, _, _, _, _, _, _, _, _, _, _, _, _, _, _, _, _, _, _, _, _, _, _, _, _, _, _, rfl, rfl, Fr.refl _ _, by omega, by omega, rfl⟩)
 · rintro a' w' ⟨k, u3, u4, u5, u6, u7, u8, u9, u10, u11, u12, u13, u14, u15, u16, u17, u18, u19, u20, u21, u22, u23, u24, u25, u26, u27, u28, u29, u30, rfl, rfl, hw, hk, hlm, hF⟩ K hj hr hn'
   have HFE : Hid (firstE ask (l.take k) (l.drop k) = firstE ask [] l) := hF
   have HEE : Hid (eachE most ask l = firstE ask [] l) := by show _ = _; unfold eachE; rw [if_neg (by omega)]
   clear hF
   by_cases hend : k = l.length
   · subst hend
     have HE : Hid (eachE most ask l = 0) := by
      show _ = _
      rw [HEE.out, ← HFE.out, List.drop_length]
      rfl
     go_wp2_with fail
     refine hr _ _ ?_
     go_ret
     rw [HE.out]
     exact ⟨rfl, hw⟩
   · have hlt : k < l.length := by omega
     have hne : ((k : Int) == (l.length : Int)) = false := by simp; omega
     have hkc : (k : Int) ≤ (cp : Int) := by omega
     have hk0 : (0 : Int) ≤ (k : Int) := by omega
     obtain ⟨x, hx⟩ : ∃ x, l[k]? = some x := ⟨_, List.getElem?_eq_getElem hlt⟩
     obtain ⟨b, off, rfl, hc0⟩ := HI.out k x hx
     have hc : ∀ (j : Nat) (u : Value), (elFd.f x)[j]? = some u → w.cell? ⟨b, off + k * 4 + j, none⟩ = some u := hc0
     clear hc0
     have c0 : w'.cell? ⟨b, off + k * 4, none⟩ = some (.string x.name) := hw.cell (hc 0 _ rfl) (fun f => f)
     have c1 : w'.cell? ⟨b, off + k * 4 + 1, none⟩ = some (.int .i64 x.ty.k) := hw.cell (hc 1 _ rfl) (fun f => f)
     have c2 : w'.cell? ⟨b, off + k * 4 + 2, none⟩ = some (.string x.ty.c) := hw.cell (hc 2 _ rfl) (fun f => f)
     have c3 : w'.cell? ⟨b, off + k * 4 + 3, none⟩ = some (.bool x.vol) := hw.cell (hc 3 _ rfl) (fun f => f)
     have HW : Hid (Fr no w w') := hw
     have A := fun w2 (f2 : Fr no w' w2) => HASK.out w2 (.slice (some ⟨b, off, none⟩) k cp) k x (hw.new f2 (fun _ _ f => f)) hx ((HS.out.kept (hw.new f2 (fun _ _ f => f))).take (by omega))
     have KS : ∀ w2, Fr no w' w2 → Fr no w' w2 ∧ w2.cell? ⟨b, off + k * 4, none⟩ = some (.string x.name) ∧ w2.cell? ⟨b, off + k * 4 + 1, none⟩ = some (.int .i64 x.ty.k) ∧ w2.cell? ⟨b, off + k * 4 + 2, none⟩ = some (.string x.ty.c) ∧ w2.cell? ⟨b, off + k * 4 + 3, none⟩ = some (.bool x.vol) := fun w2 f2 => ⟨f2, f2.cell c0 (fun f => f), f2.cell c1 (fun f => f), f2.cell c2 (fun f => f), f2.cell c3 (fun f => f)⟩
     have HX : Hid (l[k]? = some x) := hx
     have hdrop : l.drop k = x :: l.drop (k + 1) := by
      have := List.drop_eq_getElem_cons hlt
      rw [this]
      have e : l[k] = x := by
       rw [List.getElem?_eq_getElem hlt] at hx
       exact Option.some.inj hx
      rw [e]
     have HN : Hid (firstE ask [] l = if ask x (l.take k) ≠ 0 then ask x (l.take k) else firstE ask (l.take (k + 1)) (l.drop (k + 1))) := by
      show _ = _
      rw [← HFE.out, hdrop, firstE, take_next l k x hx]
     clear hx hc hw hdrop
     generalize hask : ask x (l.take k) = err at *
     by_cases h0 : err = 0
     · subst h0
       go_wp2_with fail
       go_region_held3 (fun w2 => Fr no w' w2 ∧ w2.cell? ⟨b, off + k * 4, none⟩ = some (.string x.name) ∧ w2.cell? ⟨b, off + k * 4 + 1, none⟩ = some (.int .i64 x.ty.k) ∧ w2.cell? ⟨b, off + k * 4 + 2, none⟩ = some (.string x.ty.c) ∧ w2.cell? ⟨b, off + k * 4 + 3, none⟩ = some (.bool x.vol)) (first | exact KS _ (Fr.refl no _).drew | exact KS _ f3') (first | (go_at_call 38; refine (A _ (Fr.refl no _).drew).mono ?_; rintro e w3 ⟨rfl, f3⟩; have f3' := (Fr.refl no w').drew.new f3 (fun _ _ f => f)))
       go_wp2_with fail
       go_step3
       refine hj _ _ ⟨k + 1, _, _, _, _, _, _, _, _, _, _, _, _, _, _, _, _, _, _, _, _, _, _, _, _, _, _, _, _, rfl, by go_num, HW.out.new f3' (fun _ _ f => f), by omega, by omega, ?_⟩ ?_
       · rw [HN.out, if_neg (by simp)]
       · simp [intOf]
         omega
     · have h0' : ((err : Int) == 0) = false := by simp; omega
       have HE : Hid (eachE most ask l = err) := by show _ = _; rw [HEE.out, HN.out, if_pos h0]
       go_wp2_with fail
       go_region_held3 (fun w2 => Fr no w' w2 ∧ w2.cell? ⟨b, off + k * 4, none⟩ = some (.string x.name) ∧ w2.cell? ⟨b, off + k * 4 + 1, none⟩ = some (.int .i64 x.ty.k) ∧ w2.cell? ⟨b, off + k * 4 + 2, none⟩ = some (.string x.ty.c) ∧ w2.cell? ⟨b, off + k * 4 + 3, none⟩ = some (.bool x.vol)) (first | exact KS _ (Fr.refl no _).drew | exact KS _ f3') (first | (go_at_call 38; refine (A _ (Fr.refl no _).drew).mono ?_; rintro e w3 ⟨rfl, f3⟩; have f3' := (Fr.refl no w').drew.new f3 (fun _ _ f => f)))
       go_wp2_with fail
       refine hr _ _ ?_
       go_ret
       rw [HE.out]
       exact ⟨rfl, HW.out.new f3' (fun _ _ f => f)⟩
def EachTyAt (w0 : World) (v : Value) (most : Int) (fv : Value) (ask : Ty → List Ty → Nat) (l : List Ty) (a : Act) (w : World) : Prop :=
 ∃ (k : Nat) (u3 u4 u5 u6 u7 u8 u9 u10 u11 u12 u13 u14 u15 u16 u17 u18 u19 u20 u21 u22 u23 u24 u25 u26 u27 u28 u29 u30 : Value), a = { tmps := #[v, .int .i64 most, fv, u3, u4, u5, u6, u7, u8, u9, u10, u11, u12, u13, u14, u15, u16, u17, u18, u19, u20, u21, u22, u23, u24, u25, u26, u27, u28, u29, u30], defers := [] } ∧ u7 = .int .i64 (k : Int) ∧ Fr no w0 w ∧ k ≤ l.length ∧ l.length ≤ most.toNat ∧ firstE ask (l.take k) (l.drop k) = firstE ask [] l
set_option maxRecDepth 100000 in
set_option maxHeartbeats 2000000 in
theorem eachTy_any (w : World) (v : Value) (l : List Ty) (h : SlG elTy w v l) (most : Nat) (hmost : most ≤ 1000) (ask : Ty → List Ty → Nat)
 (ASK : ∀ w' v' k x, Fr no w w' → l[k]? = some x → SlG elTy w' v' (l.take k) → Calls Tryz.prog 69 #[.agg #[.int .i64 x.k, .string x.c], v'] w' fun e w2 => e = .returned (.int .i64 (ask x (l.take k) : Int)) ∧ Fr no w' w2) :
 Calls Tryz.prog 68 #[v, .int .i64 (most : Int), .func (.func 69) #[] #[]] w fun e w' => e = .returned (.int .i64 (eachE most ask l : Int)) ∧ Fr no w w' := by
 have H0 := h
 obtain ⟨ad, cp, rfl, hcap, hmx, hit⟩ := h
 unfold maxLen at hmx
 have HI : Hid (∀ (i : Nat) (x : Ty), l[i]? = some x → ∃ b off, ad = some ⟨b, off, none⟩ ∧ ∀ (j : Nat) (u : Value), (elTy.f x)[j]? = some u → w.cell? ⟨b, off + i * elTy.n + j, none⟩ = some u) := hit
 have HS : Hid (SlG elTy w (.slice ad l.length cp) l) := H0
 have HASK : Hid (∀ w' v' k x, Fr no w w' → l[k]? = some x → SlG elTy w' v' (l.take k) → Calls Tryz.prog 69 #[.agg #[.int .i64 x.k, .string x.c], v'] w' fun e w2 => e = .returned (.int .i64 (ask x (l.take k) : Int)) ∧ Fr no w' w2) := ASK
 clear hit H0 ASK
 go_enter Tryz.func68, Tryz.ntmps68
 go_wp2_with fail
 refine wp_label_one 0 (EachTyAt w (.slice ad l.length cp) (most : Int) (.func (.func 69) #[] #[]) ask l) (fun a' _ => l.length - (intOf (a'.tmps.getD 7 undef)).toNat) rfl ?_ ?_
 · intro K h0 hr hn'
   by_cases hbig : most < l.length
   · have HE : Hid (eachE most ask l = 32) := by show _ = _; unfold eachE; rw [if_pos hbig]
     go_wp2_with fail
     refine hr _ _ ?_
     go_ret
     rw [HE.out]
     exact ⟨rfl, Fr.refl _ _⟩
   · have hbig' : ¬ (most : Int) < (l.length : Int) := by omega
     go_wp2_with fail
     go_step3
     rename_i hk
     exact hk _ _ (h0 _ _ ⟨0, _, _, _, _, _, _, _, _, _, _, _, _, _, _, _, _, _, _, _, _, _, _, _, _, _, _, _, _, rfl, rfl, Fr.refl _ _, by omega, by omega, rfl⟩)
 · rintro a' w' ⟨k, u3, u4, u5, u6, u7, u8, u9, u10, u11, u12, u13, u14, u15, u16, u17, u18, u19, u20, u21, u22, u23, u24, u25, u26, u27, u28, u29, u30, rfl, rfl, hw, hk, hlm, hF⟩ K hj hr hn'
   have HFE : Hid (firstE ask (l.take k) (l.drop k) = firstE ask [] l) := hF
   have HEE : Hid (eachE most ask l = firstE ask [] l) := by show _ = _; unfold eachE; rw [if_neg (by omega)]
   clear hF
   by_cases hend : k = l.length
   · subst hend
     have HE : Hid (eachE most ask l = 0) := by
      show _ = _
      rw [HEE.out, ← HFE.out, List.drop_length]
      rfl
     go_wp2_with fail
     refine hr _ _ ?_
     go_ret
     rw [HE.out]
     exact ⟨rfl, hw⟩
   · have hlt : k < l.length := by omega
     have hne : ((k : Int) == (l.length : Int)) = false := by simp; omega
     have hkc : (k : Int) ≤ (cp : Int) := by omega
     have hk0 : (0 : Int) ≤ (k : Int) := by omega
     obtain ⟨x, hx⟩ : ∃ x, l[k]? = some x := ⟨_, List.getElem?_eq_getElem hlt⟩
     obtain ⟨b, off, rfl, hc0⟩ := HI.out k x hx
     have hc : ∀ (j : Nat) (u : Value), (elTy.f x)[j]? = some u → w.cell? ⟨b, off + k * 2 + j, none⟩ = some u := hc0
     clear hc0
     have c0 : w'.cell? ⟨b, off + k * 2, none⟩ = some (.int .i64 x.k) := hw.cell (hc 0 _ rfl) (fun f => f)
     have c1 : w'.cell? ⟨b, off + k * 2 + 1, none⟩ = some (.string x.c) := hw.cell (hc 1 _ rfl) (fun f => f)
     have HW : Hid (Fr no w w') := hw
     have A := fun w2 (f2 : Fr no w' w2) => HASK.out w2 (.slice (some ⟨b, off, none⟩) k cp) k x (hw.new f2 (fun _ _ f => f)) hx ((HS.out.kept (hw.new f2 (fun _ _ f => f))).take (by omega))
     have KS : ∀ w2, Fr no w' w2 → Fr no w' w2 ∧ w2.cell? ⟨b, off + k * 2, none⟩ = some (.int .i64 x.k) ∧ w2.cell? ⟨b, off + k * 2 + 1, none⟩ = some (.string x.c) := fun w2 f2 => ⟨f2, f2.cell c0 (fun f => f), f2.cell c1 (fun f => f)⟩
     have HX : Hid (l[k]? = some x) := hx
     have hdrop : l.drop k = x :: l.drop (k + 1) := by
      have := List.drop_eq_getElem_cons hlt
      rw [this]
      have e : l[k] = x := by
       rw [List.getElem?_eq_getElem hlt] at hx
       exact Option.some.inj hx
      rw [e]
     have HN : Hid (firstE ask [] l = if ask x (l.take k) ≠ 0 then ask x (l.take k) else firstE ask (l.take (k + 1)) (l.drop (k + 1))) := by
      show _ = _
      rw [← HFE.out, hdrop, firstE, take_next l k x hx]
     clear hx hc hw hdrop
     generalize hask : ask x (l.take k) = err at *
     by_cases h0 : err = 0
     · subst h0
       go_wp2_with fail
       go_region_held3 (fun w2 => Fr no w' w2 ∧ w2.cell? ⟨b, off + k * 2, none⟩ = some (.int .i64 x.k) ∧ w2.cell? ⟨b, off + k * 2 + 1, none⟩ = some (.string x.c)) (first | exact KS _ (Fr.refl no _).drew | exact KS _ f3') (first | (go_at_call 69; refine (A _ (Fr.refl no _).drew).mono ?_; rintro e w3 ⟨rfl, f3⟩; have f3' := (Fr.refl no w').drew.new f3 (fun _ _ f => f)))
       go_wp2_with fail
       go_step3
       refine hj _ _ ⟨k + 1, _, _, _, _, _, _, _, _, _, _, _, _, _, _, _, _, _, _, _, _, _, _, _, _, _, _, _, _, rfl, by go_num, HW.out.new f3' (fun _ _ f => f), by omega, by omega, ?_⟩ ?_
       · rw [HN.out, if_neg (by simp)]
       · simp [intOf]
         omega
     · have h0' : ((err : Int) == 0) = false := by simp; omega
       have HE : Hid (eachE most ask l = err) := by show _ = _; rw [HEE.out, HN.out, if_pos h0]
       go_wp2_with fail
       go_region_held3 (fun w2 => Fr no w' w2 ∧ w2.cell? ⟨b, off + k * 2, none⟩ = some (.int .i64 x.k) ∧ w2.cell? ⟨b, off + k * 2 + 1, none⟩ = some (.string x.c)) (first | exact KS _ (Fr.refl no _).drew | exact KS _ f3') (first | (go_at_call 69; refine (A _ (Fr.refl no _).drew).mono ?_; rintro e w3 ⟨rfl, f3⟩; have f3' := (Fr.refl no w').drew.new f3 (fun _ _ f => f)))
       go_wp2_with fail
       refine hr _ _ ?_
       go_ret
       rw [HE.out]
       exact ⟨rfl, HW.out.new f3' (fun _ _ f => f)⟩
end Go.Proofs.YtalgjpmaafooeaaGreatDoor
