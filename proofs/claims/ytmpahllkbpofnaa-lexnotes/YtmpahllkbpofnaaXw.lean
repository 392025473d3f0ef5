/- Keywords of the document's lexer. -/
import Derived.Test.YtmpahllkbpofnaaXa
import Derived.Great.Walk
import Derived.Great.BuildSlice
import Derived.Laws.Tables
import Derived.Laws.Strings
namespace Go.Proofs.Ytmpahllkbpofnaa
open Go.ChangeShapes Go.WideShapes Go.ChangeAt Go.RowKit

def wordC : Array Value := #[.string ⟨#[99, 108, 97, 115, 115]⟩, .string ⟨#[101, 120, 116, 101, 110, 100, 115]⟩, .string ⟨#[118, 111, 108, 97, 116, 105, 108, 101]⟩, .string ⟨#[105, 110, 116]⟩, .string ⟨#[99, 112, 120]⟩, .string ⟨#[105, 110, 116, 115]⟩, .string ⟨#[118, 111, 105, 100]⟩, .string ⟨#[105, 102]⟩, .string ⟨#[101, 108, 115, 101]⟩, .string ⟨#[119, 104, 105, 108, 101]⟩, .string ⟨#[114, 101, 116, 117, 114, 110]⟩, .string ⟨#[116, 104, 114, 111, 119]⟩, .string ⟨#[116, 114, 121]⟩, .string ⟨#[99, 97, 116, 99, 104]⟩, .string ⟨#[115, 121, 110, 99]⟩, .string ⟨#[119, 97, 105, 116]⟩, .string ⟨#[110, 111, 116, 105, 102, 121]⟩, .string ⟨#[110, 111, 116, 105, 102, 121, 97, 108, 108]⟩, .string ⟨#[121, 105, 101, 108, 100]⟩, .string ⟨#[106, 111, 105, 110]⟩, .string ⟨#[111, 117, 116]⟩, .string ⟨#[110, 117, 108, 108]⟩, .string ⟨#[116, 104, 105, 115]⟩, .string ⟨#[110, 101, 119]⟩, .string ⟨#[115, 112, 97, 119, 110]⟩, .string ⟨#[97, 115]⟩, .string ⟨#[105, 115]⟩, .string ⟨#[]⟩]
def wordZ : Array Value := #[.string ⟨#[]⟩, .string ⟨#[]⟩, .string ⟨#[]⟩, .string ⟨#[]⟩, .string ⟨#[]⟩, .string ⟨#[]⟩, .string ⟨#[]⟩, .string ⟨#[]⟩, .string ⟨#[]⟩, .string ⟨#[]⟩, .string ⟨#[]⟩, .string ⟨#[]⟩, .string ⟨#[]⟩, .string ⟨#[]⟩, .string ⟨#[]⟩, .string ⟨#[]⟩, .string ⟨#[]⟩, .string ⟨#[]⟩, .string ⟨#[]⟩, .string ⟨#[]⟩, .string ⟨#[]⟩, .string ⟨#[]⟩, .string ⟨#[]⟩, .string ⟨#[]⟩, .string ⟨#[]⟩, .string ⟨#[]⟩, .string ⟨#[]⟩, .string ⟨#[]⟩]
theorem wordC_at (i : Nat) (t : ByteArray) (h : wordL[i]? = some t) : wordC[i]? = some (.string t) := by
  have hi : i < 27 := (List.getElem?_eq_some_iff.1 h).1
  revert h
  revert t
  have : ∀ j : Fin 27, wordC[j.1]? = (wordL[j.1]?).map Value.string := by
    intro j
    obtain ⟨j, hj⟩ := j
    have hc : j = 0 ∨ j = 1 ∨ j = 2 ∨ j = 3 ∨ j = 4 ∨ j = 5 ∨ j = 6 ∨ j = 7 ∨ j = 8 ∨ j = 9 ∨ j = 10 ∨ j = 11 ∨ j = 12 ∨ j = 13 ∨ j = 14 ∨ j = 15 ∨ j = 16 ∨ j = 17 ∨ j = 18 ∨ j = 19 ∨ j = 20 ∨ j = 21 ∨ j = 22 ∨ j = 23 ∨ j = 24 ∨ j = 25 ∨ j = 26 := by omega
    rcases hc with rfl | rfl | rfl | rfl | rfl | rfl | rfl | rfl | rfl | rfl | rfl | rfl | rfl | rfl | rfl | rfl | rfl | rfl | rfl | rfl | rfl | rfl | rfl | rfl | rfl | rfl | rfl <;> rfl
  intro t h
  have := this ⟨i, hi⟩
  simp only [h, Option.map_some] at this
  exact this

set_option maxRecDepth 100000 in
theorem word_any (w : World) (s : ByteArray) : Calls Try.prog 13 #[.string s] w fun e w' => e = .returned (.bool (isWord s)) ∧ Fr no w w' := by
  go_enter Try.func13, Try.ntmps13
  apply wp_seq_k; intro K0 hK0
  apply wp_region_lit
  refine Great.wpList_runTo rfl (some 2) rfl (.bool false) w (by as_aux_lemma => kernel_rfl) ?_
  refine wpList_nil ?_
  apply hK0
  clear hK0
  apply wp_seq_k; intro K1 hK1
  apply wp_region_lit
  refine wpList_buildTo rfl 55 _ rfl (some 5) rfl wordC (by as_aux_lemma => kernel_rfl) ?_
  refine Great.wpList_allocTo rfl (some 3) rfl (.pointer (some ⟨w.heap.size, 0, none⟩)) (.cells wordZ 55) (by as_aux_lemma => kernel_rfl) ?_
  refine wpList_store_row rfl 55 (.tmp 3) (.tmp 5) rfl w.heap.size wordC rfl rfl 55 wordZ (heap_alloc_new w _) (by as_aux_lemma => kernel_rfl) (by as_aux_lemma => kernel_rfl) (by as_aux_lemma => kernel_rfl) ?_
  refine wpList_nil ?_
  apply hK1
  clear hK1
  have hc : ∀ i t, wordL[i]? = some t → ((w.alloc (.cells wordZ 55)).setRow w.heap.size wordC).cell? ⟨w.heap.size, i, none⟩ = some (.string t) := by
    intro i t ht
    rw [cell_setRow_same _ _ _ wordZ wordC 55 (0, 0) (heap_alloc_new w _)]
    exact wordC_at i t ht
  have HF : Hid (Fr no w ((w.alloc (.cells wordZ 55)).setRow w.heap.size wordC)) := by
    have hf := (Fr.refl no w).alloc wordZ 55
    refine ⟨hf.os, hf.output, by rw [setRow_size]; exact hf.size, fun k hk hs => ?_, fun x hx => (frozen_setRow _ _ _ x).trans (hf.frozen x hx)⟩
    rw [setRow_other _ _ _ _ (by omega)]
    exact hf.block k hk hs
  generalize (w.alloc (.cells wordZ 55)).setRow w.heap.size wordC = w2 at *
  generalize w.heap.size = b at *
  have hl : wordL.length = 27 := rfl
  have HC : Hid _ := hc
  have HA : Hid (isWord s = wordL.any fun t => t.toList == s.toList) := rfl
  clear hc
  generalize isWord s = res at *
  generalize wordL = wl at *
  simp only [Act.put, List.set_cons_succ, List.set_cons_zero, List.setIfInBounds_toArray]
  go_wp2_with fail
  go_loopw [4] (fun i wr => wr = w2 ∧ ∃ k : Nat, i = .int .i64 (k : Int) ∧ k ≤ 27 ∧ Hid (∀ j t, j < k → wl[j]? = some t → (t.toList == s.toList) = false)) (fun i _ => 27 - (intOf i).toNat)
  case atStart => exact ⟨rfl, 0, rfl, by omega, fun j t h => by omega⟩
  case round =>
    obtain ⟨rfl, k, rfl, hk, HK⟩ := hrel
    by_cases hlt : k < 27
    · obtain ⟨t, ht⟩ : ∃ t, wl[k]? = some t := ⟨_, List.getElem?_eq_getElem (by omega)⟩
      have c1 := HC.out k t ht
      have HT : Hid _ := ht
      have hk0 : (0 : Int) ≤ (k : Int) := by omega
      have hk28 : (k : Int) < 28 := by omega
      have hk27 : (k : Int) < 27 := by omega
      clear ht
      cases hc : (t.toList == s.toList)
      · have HK2 : Hid (∀ (j : Nat) (t : ByteArray), j < k + 1 → wl[j]? = some t → (t.toList == s.toList) = false) := by
          intro j t' hj ht'
          rcases Nat.lt_succ_iff_lt_or_eq.1 hj with h | rfl
          · exact HK.out j t' h ht'
          · rw [HT.out] at ht'
            simp only [Option.some.injEq] at ht'
            rw [← ht']
            exact hc
        go_wp2_with fail
        go_roundw
        case rel => exact ⟨trivial, k + 1, by go_num, by omega, HK2.out⟩
        case measure => simp [intOf]; omega
      · have hv : res = true := by
          rw [HA.out, List.any_eq_true]
          exact ⟨t, List.mem_of_getElem? HT.out, hc⟩
        subst hv
        go_wp2_with fail
        go_ret
        exact ⟨rfl, HF.out⟩
    · obtain rfl : k = 27 := by omega
      have hv : res = false := by
        rw [HA.out, List.any_eq_false]
        intro t ht
        obtain ⟨j, hj, e⟩ := List.mem_iff_getElem.1 ht
        rw [HK.out j t (by omega) (by rw [← e]; exact List.getElem?_eq_getElem hj)]
        simp
      subst hv
      clear hlt hk
      go_wp2_with fail
      go_ret
      exact ⟨rfl, HF.out⟩
end Go.Proofs.Ytmpahllkbpofnaa
