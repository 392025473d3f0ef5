/- What 'known' answers: true. -/
import Derived.Test.YtdafghfhhkhjcaaDoorSame
namespace Go.Proofs.YtdafghfhhkhjcaaDoor
open Go.ChangeShapes Go.WideShapes Go.ChangeAt Go.RowKit

theorem sl_ins (w : World) : SlI (w.alloc (.cells #[.int .i64 22, .int .i64 300] 23)) (.slice (some ⟨w.heap.size, 0, none⟩) 1 1) [(22, 300)] := by
  refine ⟨_, 1, rfl, by simp, by unfold maxLen; omega, fun i x hx => ⟨w.heap.size, 0, rfl, ?_⟩⟩
  match i, hx with
  | 0, hx => simp at hx; subst hx; simp
  | n + 1, hx => simp at hx

theorem sl_two (w : World) : Sl (w.alloc (.cells #[.int .u8 1, .int .u8 200] 5)) (.slice (some ⟨w.heap.size, 0, none⟩) 2 2) [1, 200] := by
  refine .inl ⟨w.heap.size, 0, 2, rfl, by simp, by unfold maxLen; omega, fun i c hi => ?_⟩
  match i, hi with
  | 0, hi => simp at hi; subst hi; simp
  | 1, hi => simp at hi; subst hi; simp

theorem sl_four (w : World) : Sl (w.alloc (.cells #[.int .u8 1, .int .u8 22, .int .u8 172, .int .u8 2] 5)) (.slice (some ⟨w.heap.size, 0, none⟩) 4 4) [1, 22, 172, 2] := by
  refine .inl ⟨w.heap.size, 0, 4, rfl, by simp, by unfold maxLen; omega, fun i c hi => ?_⟩
  match i, hi with
  | 0, hi => simp at hi; subst hi; simp
  | 1, hi => simp at hi; subst hi; simp
  | 2, hi => simp at hi; subst hi; simp
  | 3, hi => simp at hi; subst hi; simp

theorem conv_sl {w : World} {b : Nat} {n cap : Nat} {l : List Nat} (h : Sl w (.slice (some ⟨b, 0, none⟩) n cap) l) (hn : n = l.length) : (convert 30 9 (.slice (some ⟨b, 0, none⟩) n cap)).run Tryd.prog w = .ok (.string (bstr l)) w := by
  subst hn
  rcases h with ⟨b', off, cap', e, h1, h2, hc⟩ | ⟨rfl, ad, cap', e, h1, h0⟩
  · simp only [Value.slice.injEq, Option.some.injEq, Addr.mk.injEq, and_true, true_and] at e
    obtain ⟨⟨rfl, rfl⟩, rfl⟩ := e
    have := conv_text w b 0 l.length cap l (Nat.le_refl _) hc
    rwa [List.take_length] at this
  · have := conv_text w b 0 0 cap [] (by simp) (fun i c hi => by simp at hi)
    simpa using this

theorem prt_goto : prt 22 3 = ⟨#[103, 111, 116, 111, 32, 51]⟩ := by
  have h1 : isb 22 3 = true := by decide
  have h2 : ¬ od 22 = 0 := by decide
  unfold prt
  rw [if_pos h1, if_neg h2, show (3 : Int).toNat = 3 from rfl, dgs_small 3 (by omega)]
  rfl

set_option maxRecDepth 100000 in
set_option maxHeartbeats 1000000 in
theorem known_any (w : World) (T : Tb w) : Calls Tryd.prog 8 #[] w fun e w' => e = .returned (.bool true) ∧ Fr no w w' := by
  have hB : ptB [(22, 300)] = [1, 22, 172, 2] := by decide
  have hE : ptE [(22, 300)] = 0 := by decide
  have hG : (gt [1, 200]).2 = 40 := by decide
  have f1 : Fr no w (w.alloc (.cells #[.int .i64 22, .int .i64 300] 23)) := (Fr.refl no w).alloc _ _
  have P := put_any _ (T.kept f1) _ _ (sl_ins w)
  rw [hB, hE] at P
  have HT : Hid (Tb w) := T
  have HF1 : Hid (Fr no w (w.alloc (.cells #[.int .i64 22, .int .i64 300] 23))) := f1
  have HG : Hid ((gt [1, 200]).2 = 40) := hG
  clear hB hE hG T f1
  go_enter Tryd.func8, Tryd.ntmps8
  go_wp2_with fail
  refine P.mono ?_
  rintro e w2 ⟨v2, rfl, o2, f2⟩
  have g2 := HF1.out.new f2 (fun _ _ f => f)
  obtain ⟨a2, n2, c2, e2⟩ := o2.form
  subst e2
  go_wp2_with fail
  have G := get_any _ (HT.out.kept (g2.alloc _ _)) _ _ (sl_two w2) (by simp) (by simp)
  rw [HG.out] at G
  refine G.mono ?_
  rintro e w3 ⟨v3, rfl, o3, f3⟩
  have f23 : Fr no w2 w3 := ((Fr.refl no w2).alloc _ _).new f3 (fun _ _ f => f)
  have o2' := o2.kept f23 (fun _ _ f => f)
  have g3 := g2.new f23 (fun _ _ f => f)
  obtain ⟨a3, c3, e3⟩ := o3.form
  subst e3
  have hc2 := conv_own w3 _ _ o2'
  have hc4 := conv_sl (sl_four w3) rfl
  have hP := print_any (w3.alloc (.cells #[.int .u8 1, .int .u8 22, .int .u8 172, .int .u8 2] 5)) (HT.out.kept (g3.alloc _ _)) 22 3
  rw [prt_goto] at hP
  unfold ins at hP
  have HP := Lib.hid hP
  generalize bstr [1, 22, 172, 2] = s at *
  clear o2 o2' o3 f3 f23 f2 P G
  go_wp2_with fail
  refine HP.out.mono ?_
  rintro e w4 ⟨rfl, f4⟩
  go_wp2_with fail
  go_ret
  exact ⟨rfl, (g3.alloc _ _).new f4 (fun _ _ f => f)⟩
end Go.Proofs.YtdafghfhhkhjcaaDoor
