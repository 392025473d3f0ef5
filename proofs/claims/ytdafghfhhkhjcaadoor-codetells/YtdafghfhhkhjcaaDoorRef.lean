/- The bits of complex numbers, a writer's Cplx, and what the document's own functions append. -/
import Derived.Test.YtdafghfhhkhjcaaDoorBack
import Derived.WalkLawsBesides
namespace Go.Proofs.YtdafghfhhkhjcaaDoor
open Go.ChangeShapes Go.WideShapes Go.ChangeAt Go.RowKit

/-- One byte behind a slice of one's own. -/
theorem own_alloc {w : World} {v : Value} {l : List Nat} (h : Own w v l) (c : Array Value) (t : TypeId) : Own (w.alloc (.cells c t)) v l := h.kept ((Fr.refl no w).alloc c t) (fun _ _ f => f)

set_option maxRecDepth 100000 in
theorem ref_uint (w : World) (u : Value) (l : List Nat) (h : Own w u l) (hb : l.length + 10 ≤ 1099511627776) (n : Nat) (hn : n < 2 ^ 64) :
    Calls Tryd.prog 35 #[u, .int .u64 (n : Int)] w fun e w' => ∃ u', e = .returned u' ∧ Own w' u' (l ++ enc n) ∧ Sp no u w u' w' := by
  go_enter Tryd.func35, Tryd.ntmps35
  go_wp2_with fail
  go_loopw [0, 1] (fun s m wr => ∃ (f r : Nat) (l' : List Nat), m = .int .u64 (r : Int) ∧ Own wr s l' ∧ Sp no u w s wr ∧ l' ++ en f r = l ++ enc n ∧ r < 2 ^ (7 * f + 1)) (fun _ m _ => (intOf m).toNat)
  case atStart => exact ⟨9, n, l, rfl, h, Sp.refl _ _ _, rfl, hn⟩
  case round =>
    obtain ⟨f, m, l', rfl, ho, hs, hl, hm⟩ := hrel
    rename_i s
    have HL : Hid (l' ++ en f m = l ++ enc n) := hl
    have HM : Hid (m < 2 ^ (7 * f + 1)) := hm
    have hlen : l'.length + (en f m).length = l.length + (enc n).length := by have := congrArg List.length hl; simpa using this
    have h10 := enc_length n
    have h1 := en_length f m
    have hbb : ∀ c : Nat, l'.length + ([c] : List Nat).length ≤ 1099511627776 := fun c => by simp; omega
    clear hl hm hlen h10 h1
    by_cases h128 : 128 ≤ m
    · have e8 := or8 m
      have hS := src_one wr (m % 128 + 128)
      have o1 := own_alloc ho #[.int .u8 ((m % 128 + 128 : Nat) : Int)] 5
      obtain ⟨o, n1, cp, e0⟩ := ho.form
      subst e0
      go_wp2_with (at_builtin; refine wpList_apd _ rfl rfl (.tmp 7) (.tmp 11) 30 rfl _ l' rfl o1 _ rfl [m % 128 + 128] hS (hbb _) ?_; intro v' w' hown hsp; obtain ⟨o', n2, cp', e2⟩ := hown.form; subst e2)
      obtain ⟨f, rfl⟩ : ∃ g, f = g + 1 := by
        cases f with
        | zero => exact absurd HM.out (by omega)
        | succ g => exact ⟨g, rfl⟩
      go_roundw
      case rel =>
        refine ⟨f, m / 128, l' ++ [m % 128 + 128], by go_num, hown, hs.trans hsp.alloc, ?_, ?_⟩
        · rw [← HL.out, en_step f m h128]; simp
        · have h2 := HM.out
          rw [show 7 * (f + 1) + 1 = 7 + (7 * f + 1) by omega, Nat.pow_add] at h2
          omega
      case measure => simp [intOf]; omega
    · have hS := src_one wr m
      have o1 := own_alloc ho #[.int .u8 (m : Int)] 5
      obtain ⟨o, n1, cp, e0⟩ := ho.form
      subst e0
      go_wp2_with (at_builtin; refine wpList_apd _ rfl rfl (.tmp 15) (.tmp 18) 30 rfl _ l' rfl o1 _ rfl [m] hS (hbb _) ?_; intro v' w' hown hsp)
      go_ret
      refine ⟨_, rfl, ?_, hs.trans hsp.alloc⟩
      rw [← HL.out, en_small f m (by omega)]
      exact hown
end Go.Proofs.YtdafghfhhkhjcaaDoor
