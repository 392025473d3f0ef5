/- What the program's start lays: from the rows' condition on package-level variables to the tables that the calls read. -/
import Derived.Test.YtdafghfhhkhjcaaDoorRows
import Derived.Test.YtdafghfhhkhjcaaDoorKnown
import Derived.ProofKit
import Derived.LaidMore
import Derived.OpenShut
import Derived.Stop.Joined
import Derived.Stop.LaidErr
import Derived.Lib.LaidTab
namespace Go.Proofs.YtdafghfhhkhjcaaDoor
open Go.ChangeShapes Go.WideShapes Go.ChangeAt Go.RowKit

theorem own : ownKnob Tryd.prog.godebug = none := by kernel_rfl

/-- The variables that CodeTells and CodeOps list. -/
abbrev laid6 : List (String × DataW Unit) := Rows.codeTellsRow.laid
/-- Those that the others list. -/
abbrev laid5 : List (String × DataW Unit) := Rows.codeBytesRow.laid

theorem door_met6 (os : Os) (args : Array Value) : laidMetH Tryd.prog laid6 ((World.doorLaid Tryd.prog 39 os).forCall (fun _ _ => 0) ⟨#[], args, []⟩).memory :=
  laidMetH_of_parts3 (fuel := 8) (laidMet_of_run' 8 (by kernel_rfl) (by kernel_rfl)) (by kernel_rfl) (by kernel_rfl)
theorem door_met5 (os : Os) (args : Array Value) : laidMetH Tryd.prog laid5 ((World.doorLaid Tryd.prog 39 os).forCall (fun _ _ => 0) ⟨#[], args, []⟩).memory :=
  laidMetH_of_parts3 (fuel := 8) (laidMet_of_run' 8 (by kernel_rfl) (by kernel_rfl)) (by kernel_rfl) (by kernel_rfl)

/-- A table of texts, as a row lists it. -/
def textData {H : Type} (zs : List (List UInt8)) : DataW H := .agg (zs.map fun z => .lit (.string z))

theorem cells_of_texts {H : Type} {enc : TypeId × Value → H} {P : Program} {w : World} {base : Nat} {sp : Nat → Bool} {held : Bool} {fuel : Nat} {t e : TypeId} {n : Nat} {cs : List Value} {zs : List (List UInt8)} {p : List MemPlace}
    (ht : P.underlying t = some (.array n e)) (he : P.underlying e = some .string) (hce : P.cellsOf e = 1) (hct : P.cellsOf t = n)
    (h : DataW.trod enc P w base sp held fuel t cs = some (textData zs, p)) : cs = zs.map fun z => Value.string ⟨z.toArray⟩ := by
  obtain ⟨xs, m, _, hx, hlen, hn, hel⟩ := DataW.trod_array ht h
  have hxs : xs.map (·.1) = zs.map fun z => (DataW.lit (.string z) : DataW H) := by
    have := congrArg Prod.fst hx
    simpa [textData] using this.symm
  have hzl : zs.length = n := by
    have := congrArg List.length hxs
    simp at this
    omega
  rw [hct] at hlen
  apply List.ext_getElem?
  intro i
  by_cases hi : i < n
  · have hb := hel i (by omega)
    rw [hce, List.getElem?_eq_getElem (by omega)] at hb
    obtain ⟨s, hc, hy, _⟩ := DataW.trod_string he hb
    have h1 : cs[i]? = some (.string s) := by
      have := congrArg (·[0]?) hc
      simpa [List.getElem?_take, List.getElem?_drop] using this
    have h2 : (xs.map (·.1))[i]? = some (DataW.lit (.string s.data.toList) : DataW H) := by
      rw [List.getElem?_map, List.getElem?_eq_getElem (by omega), hy]
      rfl
    rw [hxs] at h2
    simp only [List.getElem?_map, Option.map_eq_some_iff, DataW.lit.injEq, Lit.string.injEq] at h2
    obtain ⟨z', hz', e⟩ := h2
    rw [h1, List.getElem?_map, hz']
    simp [e]
  · rw [List.getElem?_eq_none (by omega), List.getElem?_eq_none (by simp; omega)]

theorem texts_of_head {P : Program} {W : World} {name : String} {zs : List (List UInt8)} {rest : List (String × DataW Unit)} {g : Nat} {t e : TypeId} {n : Nat}
    (hg : P.globalNamed name = some g) (hty : (P.globals[g]?).map (·.type) = some t) (ht : P.underlying t = some (.array n e)) (he : P.underlying e = some .string) (hce : P.cellsOf e = 1) (hct : P.cellsOf t = n)
    (h : laidMet P ((name, textData zs) :: rest) W) (i : Nat) (hi : i < zs.length) : W.cell? ⟨g, i, none⟩ = some (.string ⟨(zs.getD i []).toArray⟩) := by
  obtain ⟨ps, ⟨g', t', cs, fuel, p, q, hg', ht', hvar, hd, _, _⟩, _⟩ := h
  obtain rfl := Option.some.inj (hg.symm.trans hg')
  obtain rfl := Option.some.inj (hty.symm.trans ht')
  have hv : W.var? P name = some (zs.map fun z => Value.string ⟨z.toArray⟩).toArray := by
    rw [hvar, ← cells_of_texts ht he hce hct hd]
  have := World.var?_cell hg hv i
  simpa [List.getD, hi] using this

theorem of_laid6 {W : World} (h : laidMetH Tryd.prog laid6 W) : Tb W ∧ Tr W := by
  rw [MakeChecks.laidMetH_plain _ _ _ (by kernel_rfl)] at h
  have h2 := h.tail.tail
  have h3 := h2.tail
  have h4 := h3.tail
  have h5 := h4.tail
  have pw : Pow W := Lib.tabIs_of_head (g := 3) (t := 93) (e := 53) (n := 20) (zs := Lib.pow10Tab) (by kernel_rfl) (by kernel_rfl) Tryd.underlying93 Tryd.underlying53 (by kernel_rfl) (by kernel_rfl) h2
  have op : Lib.TabIs Tryd.prog W "loom/code.operands" .i8 opds := Lib.tabIs_of_head (g := 0) (t := 45) (e := 44) (n := 48) (zs := opds) (by kernel_rfl) (by kernel_rfl) Tryd.underlying45 Tryd.underlying44 (by kernel_rfl) (by kernel_rfl) h3
  have tr : Lib.TabIs Tryd.prog W "loom/code.traits" .u8 trts := Lib.tabIs_of_head (g := 2) (t := 73) (e := 5) (n := 48) (zs := trts) (by kernel_rfl) (by kernel_rfl) Tryd.underlying73 Tryd.underlying5 (by kernel_rfl) (by kernel_rfl) h4
  have nm := texts_of_head (g := 1) (t := 47) (e := 9) (n := 48) (zs := nams) (by kernel_rfl) (by kernel_rfl) Tryd.underlying47 Tryd.underlying9 (by kernel_rfl) (by kernel_rfl) h5
  exact ⟨⟨fun n hn => op.cell (g := 0) (by kernel_rfl) n hn, fun n hn => nm n hn, pw⟩, fun n hn => tr.cell (g := 2) (by kernel_rfl) n hn⟩

theorem of_laid5 {W : World} (h : laidMetH Tryd.prog laid5 W) : Tb W := by
  rw [MakeChecks.laidMetH_plain _ _ _ (by kernel_rfl)] at h
  have h2 := h.tail.tail
  have h3 := h2.tail
  have h4 := h3.tail
  have pw : Pow W := Lib.tabIs_of_head (g := 3) (t := 93) (e := 53) (n := 20) (zs := Lib.pow10Tab) (by kernel_rfl) (by kernel_rfl) Tryd.underlying93 Tryd.underlying53 (by kernel_rfl) (by kernel_rfl) h2
  have op : Lib.TabIs Tryd.prog W "loom/code.operands" .i8 opds := Lib.tabIs_of_head (g := 0) (t := 45) (e := 44) (n := 48) (zs := opds) (by kernel_rfl) (by kernel_rfl) Tryd.underlying45 Tryd.underlying44 (by kernel_rfl) (by kernel_rfl) h3
  have nm := texts_of_head (g := 1) (t := 47) (e := 9) (n := 48) (zs := nams) (by kernel_rfl) (by kernel_rfl) Tryd.underlying47 Tryd.underlying9 (by kernel_rfl) (by kernel_rfl) h4
  exact ⟨fun n hn => op.cell (g := 0) (by kernel_rfl) n hn, fun n hn => nm n hn, pw⟩
end Go.Proofs.YtdafghfhhkhjcaaDoor
