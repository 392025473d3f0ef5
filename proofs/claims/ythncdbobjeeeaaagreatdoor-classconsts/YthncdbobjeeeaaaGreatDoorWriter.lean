/- What the methods of a writer do: each adds its bytes to what was written, and turns nothing else. -/
import Derived.Test.YthncdbobjeeeaaaGreatDoorMem
import Derived.Test.YthncdbobjeeeaaaGreatDoorMath
import Derived.Test.YthncdbobjeeeaaaGreatDoorScope
namespace Go.Proofs.YthncdbobjeeeaaaGreatDoor
open Go.ChangeShapes Go.WideShapes Go.ChangeAt Go.RowKit

/-- A writer at block p, that holds v: the bytes l. -/
def Wt (w : World) (p : Nat) (v : Value) (l : List Nat) : Prop := w.heap[p]? = some (.cells #[v] 149 (0, 0)) ∧ Own w v l

theorem Own.shape {w : World} {v : Value} {l : List Nat} (h : Own w v l) : ∃ o cap, v = .slice o l.length cap := by
  rcases h.2 with ⟨rfl, h0⟩ | ⟨g, cap, cur, rfl, _⟩
  · exact ⟨_, _, by rw [h0]⟩
  · exact ⟨_, _, rfl⟩

theorem Wt.apart {w : World} {p : Nat} {v : Value} {l : List Nat} (h : Wt w p v l) : v.ownBlock ≠ some p := by
  intro e
  rcases h.2.2 with ⟨rfl, _⟩ | ⟨g, cap, cur, rfl, hb, hgg, rest⟩
  · simp [Value.ownBlock] at e
  · simp [Value.ownBlock] at e
    subst e
    rw [h.1] at hgg
    simp at hgg

theorem Wt.kept {S : Nat → Prop} {w w' : World} {p : Nat} {v : Value} {l : List Nat} (h : Wt w p v l) (hf : Fr S w w') (hp : ¬ S p) (hS : ∀ k, v.ownBlock = some k → ¬ S k) : Wt w' p v l :=
  ⟨hf.heap h.1 hp, h.2.kept hf hS⟩

theorem Wt.next {w w' : World} {p : Nat} {v v' : Value} {l m : List Nat} (h : Wt w p v l) (hs : Sp no v w v' w') (ho : Own w' v' m) :
    Wt (w'.setCell ⟨p, 0, none⟩ v') p v' m ∧ Sp (fun k => k = p) v w v' (w'.setCell ⟨p, 0, none⟩ v') := by
  have hlt := lt_of_heap h.1
  have hp : w'.heap[p]? = some (.cells #[v] 149 (0, 0)) := hs.1.heap h.1 (fun e => e.elim id (fun e => h.apart e))
  have hne : v'.ownBlock ≠ some p := fun e => h.apart (hs.2 p hlt e)
  have hf : Fr (fun k => k = p) w' (w'.setCell ⟨p, 0, none⟩ v') := (Fr.refl (fun k => k = p) w').setCell (p := ⟨p, 0, none⟩) (fun _ => rfl) _
  refine ⟨⟨one_setCell hp, ho.kept hf (fun k hk e => hne (e ▸ hk))⟩, ?_⟩
  exact (hs.mono (fun _ _ f => f.elim)).then hf (fun _ _ e => e)

theorem Sp.alloc {q : Nat → Prop} {v v' : Value} {w w' : World} {c : Array Value} {t : TypeId} (h : Sp q v (w.alloc (.cells c t)) v' w') : Sp q v w v' w' :=
  h.after ((Fr.refl q w).alloc c t) (fun _ _ s => s)

theorem Wt.alloc {w : World} {p : Nat} {v : Value} {l : List Nat} (h : Wt w p v l) (c : Array Value) (t : TypeId) : Wt (w.alloc (.cells c t)) p v l :=
  h.kept ((Fr.refl no w).alloc c t) (fun f => f) (fun _ _ f => f)

theorem src_one (w : World) (c : Nat) : Src Tryz.prog 1 22 (.slice (some ⟨w.heap.size, 0, none⟩) 1 1) ([c] : List Nat).length (cl [c]) (w.alloc (.cells #[.int .u8 (c : Int)] 5)) :=
  Src.ofSlice _ Tryz.underlying22 _ _ _ _ rfl (fun j u hj => by
    match j, hj with
    | 0, hj => simp [cl] at hj; subst hj; simp [Addr.add]) (cl_one _)

theorem byte_any (w : World) (p : Nat) (v : Value) (l : List Nat) (h : Wt w p v l) (hb : l.length + 1 ≤ 1099511627776) (c : Nat) :
    Calls Tryz.prog 41 #[.pointer (some ⟨p, 0, none⟩), .int .u8 (c : Int)] w fun e w' => e = .returned (.tuple #[]) ∧ ∃ v', Wt w' p v' (l ++ [c]) ∧ Sp (fun k => k = p) v w v' w' := by
  have hc : w.cell? ⟨p, 0, none⟩ = some v := cell_of_one h.1
  obtain ⟨o, cap, rfl⟩ := h.2.shape
  have h1 := h.alloc #[.int .u8 (c : Int)] 5
  have hS := src_one w c
  go_enter Tryz.func41, Tryz.ntmps41
  go_wp2_with (at_builtin; refine wpList_apd _ rfl rfl (.tmp 8) (.tmp 10) 22 rfl _ l rfl h1.2 _ rfl [c] hS hb ?_; intro v' w' hown hsp; have hp' := hsp.1.heap h1.1 (fun e => e.elim id (fun e => h1.apart e)); have hcw := cell_of_one hp'; have hfw := free_of_one hp'; clear hp'; obtain ⟨o', cap', rfl⟩ := hown.shape)
  go_end0
  obtain ⟨r1, r2⟩ := h1.next hsp hown
  simp only [List.length_append, List.length_cons, List.length_nil, Nat.zero_add] at r1 r2
  exact ⟨rfl, _, r1, r2.alloc⟩

def UintAt (w0 : World) (p : Nat) (v0 : Value) (all : List Nat) (a : Act) (w : World) : Prop :=
  ∃ (f m : Nat) (v : Value) (l : List Nat) (v1 u2 u3 u4 u5 u6 u7 u8 u9 u10 u11 u12 u13 u14 u15 u16 : Value),
    a = { tmps := #[.pointer (some ⟨p, 0, none⟩), v1, u2, u3, u4, u5, u6, u7, u8, u9, u10, u11, u12, u13, u14, u15, u16], defers := [] } ∧ v1 = .int .u64 (m : Int) ∧
    Wt w p v l ∧ Sp (fun k => k = p) v0 w0 v w ∧ l ++ en f m = all ∧ m < 2 ^ (7 * f + 1)

set_option maxRecDepth 100000 in
theorem uint_any (w : World) (p : Nat) (v : Value) (l : List Nat) (h : Wt w p v l) (hb : l.length + 10 ≤ 1099511627776) (n : Nat) (hn : n < 2 ^ 64) :
    Calls Tryz.prog 93 #[.pointer (some ⟨p, 0, none⟩), .int .u64 (n : Int)] w fun e w' => e = .returned (.tuple #[]) ∧ ∃ v', Wt w' p v' (l ++ enc n) ∧ Sp (fun k => k = p) v w v' w' := by
  go_enter Tryz.func93, Tryz.ntmps93
  refine wp_label_one 0 (UintAt w p v (l ++ enc n)) (fun a' _ => (intOf (a'.tmps.getD 1 undef)).toNat) rfl ?_ ?_
  · intro K h0 hr hn'
    go_wp2_with fail
    go_step3
    rename_i hk
    exact hk _ _ (h0 _ _ ⟨9, n, v, l, _, _, _, _, _, _, _, _, _, _, _, _, _, _, _, _, rfl, rfl, h, Sp.refl _ _ _, rfl, hn⟩)
  · rintro a' w' ⟨f, m, v', l', v1, u2, u3, u4, u5, u6, u7, u8, u9, u10, u11, u12, u13, u14, u15, u16, rfl, rfl, hw, hs, hl, hm⟩ K hj hr hn'
    have HL : Hid (l' ++ en f m = l ++ enc n) := hl
    have HM : Hid (m < 2 ^ (7 * f + 1)) := hm
    have HB : Hid (l.length + 10 ≤ 1099511627776) := hb
    have HN : Hid (n < 2 ^ 64) := hn
    clear hl hm hb hn
    by_cases h128 : 128 ≤ m
    · have e8 := or8 m
      go_wp2_with fail
      have hlen : l'.length + (en f m).length = l.length + (enc n).length := by have := congrArg List.length HL.out; simpa using this
      have h10 := enc_length n
      have h1 := en_length f m
      have hB := HB.out
      refine (byte_any w' p v' l' hw (by omega) (m % 128 + 128)).mono ?_
      rintro e w2 ⟨rfl, v2, hw2, hs2⟩
      obtain ⟨f, rfl⟩ : ∃ g, f = g + 1 := by
        cases f with
        | zero => exact absurd HM.out (by omega)
        | succ g => exact ⟨g, rfl⟩
      clear hlen h10 h1 hB
      go_wp2_with fail
      go_step3
      refine hj _ _ ⟨f, m / 128, v2, _, _, _, _, _, _, _, _, _, _, _, _, _, _, _, _, _, rfl, by simp, hw2, hs.trans hs2, ?_, ?_⟩ ?_
      · rw [← HL.out, en_step f m h128]; simp
      · have h2 := HM.out
        rw [show 7 * (f + 1) + 1 = 7 + (7 * f + 1) by omega, Nat.pow_add] at h2
        omega
      · simp [intOf]; omega
    · go_wp2_with fail
      have hlen : l'.length + (en f m).length = l.length + (enc n).length := by have := congrArg List.length HL.out; simpa using this
      have h10 := enc_length n
      have h1 := en_length f m
      have hB := HB.out
      refine (byte_any w' p v' l' hw (by omega) m).mono ?_
      rintro e w2 ⟨rfl, v2, hw2, hs2⟩
      clear hlen h10 h1 hB
      go_wp2_with fail
      go_end0
      refine ⟨rfl, v2, ?_, hs.trans hs2⟩
      rw [← HL.out, en_small f m (by omega)]
      exact hw2
end Go.Proofs.YthncdbobjeeeaaaGreatDoor
