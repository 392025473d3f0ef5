/- What is known of the program's lexer ahead of each law. -/
import Derived.Test.YtmpahllkbpofnaaPg
import Derived.Test.YtmpahllkbpofnaaSm
namespace Go.Proofs.Ytmpahllkbpofnaa
open Go.ChangeShapes Go.WideShapes Go.ChangeAt Go.RowKit

def t1 : ByteArray := ⟨#[120, 61, 51, 105, 32, 47, 47, 32, 110, 111]⟩
def t2 : ByteArray := ⟨#[97, 32, 35]⟩
theorem lex1 : lexR t1 = (0, Y.mkAll [(if isWord (Y.bytes [120]) then 2 else 1, 0, [120]), (5, 1, [61]), (4, 2, [51, 105])] ++ [Y.endT t1], 0) := by
  refine Y.lexR_of t1 ?_ (by decide)
  show Y.Lx ([120] ++ ([61] ++ ([51] ++ [105] ++ ([32] ++ [47, 47, 32, 110, 111])))) 0 _
  refine Y.Lx.tok (r := [120, 61, 51, 105, 32, 47, 47, 32, 110, 111]) (k := if isWord (Y.bytes [120]) then 2 else 1) (n := 1) (by decide) (by kernel_rfl) ?_
  refine Y.Lx.tok (r := [61, 51, 105, 32, 47, 47, 32, 110, 111]) (k := 5) (n := 1) (by decide) (by kernel_rfl) ?_
  show Y.Lx ([51] ++ [105] ++ ([32] ++ [47, 47, 32, 110, 111])) 2 _
  refine Y.lx_tok (Y.Shape.cplx 51 [] 105 (fun d hd => by simp at hd; subst hd; rfl) (by decide) (.inr rfl)) (fun c hc => by simp at hc; subst hc; decide) ?_
  refine Y.Gap.blank rfl _ _ _ ?_
  exact Y.Lx.gap (by decide) (n := 5) rfl (Y.Lx.nil _)
theorem lex2 : lexR t2 = (2, [], 180) := by
  have h0 := Y.one_look t2 0 (by decide)
  have h1 := Y.one_look t2 1 (by decide)
  have h2 := Y.one_look t2 2 (by decide)
  have e0 : Y.look ((nl t2).drop 0) = .tok (if isWord (Y.bytes [97]) then 2 else 1) 1 := Y.look_word (c := 97) (x := []) (r := [32, 35]) rfl (fun d hd => by simp at hd; subst hd; rfl) (by decide) (fun c hc => by simp at hc; subst hc; decide)
  have e1 : Y.look ((nl t2).drop 1) = .gap 1 := rfl
  have e2 : Y.look ((nl t2).drop 2) = .bad 180 := rfl
  rw [e0] at h0
  rw [e1] at h1
  rw [e2] at h2
  simp only at h0 h1 h2
  have hz : t2.size = 3 := rfl
  have g0 := lexF_go (k := 3) (l := []) (R := lexF t2 4 0 []) rfl (by decide) h0
  have g1 := lexF_go (k := 2) g0 (by decide) h1
  have g2 := lexF_bad (k := 1) (b := (one t2 2).1) (m := (one t2 2).2.1) (e := 180) g1 (by decide) (by rw [← h2.1]) (by decide)
  unfold lexR
  rw [if_neg (by decide)]
  exact g2
/-- A token's cells, in a row that is read. -/
theorem tk_at {w : World} {o : Option Addr} {n c : Nat} {l : List Tk} (h : SlG elK w (.slice o n c) l) {k : Nat} {x : Tk} (hx : l[k]? = some x) :
    ∃ b off, o = some ⟨b, off, none⟩ ∧ ∀ (j : Nat) (u : Value), (tkL x)[j]? = some u → w.cell? ⟨b, off + k * 5 + j, none⟩ = some u := by
  obtain ⟨hk, e⟩ := List.getElem?_eq_some_iff.1 hx
  obtain ⟨b, off, ho, hc⟩ := sl_tk h hk
  rw [e] at hc
  exact ⟨b, off, ho, hc⟩
theorem cx3 : floatOfInt .f64 3 = 4613937818241073152 := by kernel_rfl

set_option maxRecDepth 100000 in
set_option maxHeartbeats 4000000 in
theorem known_any (w : World) : Calls Try.prog 8 #[] w fun e w' => e = .returned (.bool true) ∧ Fr no w w' := by
  have A1 := fun w => pAll w t1
  have A2 := fun w => pAll w t2
  rw [lex1] at A1
  rw [lex2] at A2
  have HW : isWord ⟨#[115, 121, 110, 99]⟩ = true := by
    rw [isWord_eq, ByteArray.toList_eq]
    rfl
  have W := fun w => pWord w ⟨#[115, 121, 110, 99]⟩
  rw [HW] at W
  have he : ∀ k, (Y.mkAll [(k, 0, [120]), (5, 1, [61]), (4, 2, [51, 105])] ++ [Y.endT t1]).length = 4 := fun k => rfl
  have h2 : ∀ k, (Y.mkAll [(k, 0, [120]), (5, 1, [61]), (4, 2, [51, 105])] ++ [Y.endT t1])[2]? = some ⟨4, 2, Y.bytes [51, 105], 0, 0, 4613937818241073152⟩ := fun k => by
    rw [← cx3]
    rfl
  have h3 : ∀ k, (Y.mkAll [(k, 0, [120]), (5, 1, [61]), (4, 2, [51, 105])] ++ [Y.endT t1])[3]? = some ⟨6, 10, ⟨#[]⟩, 0, 0, 0⟩ := fun k => rfl
  replace he := he (if isWord (Y.bytes [120]) then 2 else 1)
  replace h2 := h2 (if isWord (Y.bytes [120]) then 2 else 1)
  replace h3 := h3 (if isWord (Y.bytes [120]) then 2 else 1)
  generalize Y.mkAll [(if isWord (Y.bytes [120]) then 2 else 1, 0, [120]), (5, 1, [61]), (4, 2, [51, 105])] ++ [Y.endT t1] = L at *
  unfold t1 at A1
  unfold t2 at A2
  go_enter Try.func8, Try.ntmps8
  go_wp2_with fail
  refine (A1 _).mono ?_
  rintro _ w1 ⟨v1, rfl, ⟨o1, n1⟩, f1⟩
  obtain ⟨oo, cc, rfl⟩ := o1.form
  rw [he] at *
  have HO : Hid (OwnG elK w1 (.slice oo 4 cc) L ∧ Fr no w w1) := ⟨o1, f1⟩
  clear o1 n1 f1
  go_wp2_with fail
  refine (A2 _).mono ?_
  rintro _ w2 ⟨v2, rfl, ⟨o2, n2⟩, f2⟩
  have HF : Hid (Fr no w w2) := HO.out.2.and f2
  have HS := (HO.out.1.keep f2).sl
  clear o2 n2 f2
  obtain ⟨b, off, rfl, hc⟩ := tk_at HS h2
  obtain ⟨b', off', hb, hd⟩ := tk_at HS h3
  simp only [Option.some.injEq, Addr.mk.injEq] at hb
  obtain ⟨rfl, rfl, _⟩ := hb
  have c0 := hc 0 _ rfl
  have c4 := hc 4 _ rfl
  have d0 := hd 0 _ rfl
  simp only [Nat.add_zero, Nat.reduceMul] at c0 c4 d0
  clear hc hd HS HO h2 h3
  go_wp2_with fail
  refine (W _).mono ?_
  rintro _ w3 ⟨rfl, rfl⟩
  go_wp2_with fail
  go_ret
  exact ⟨rfl, HF.out⟩
end Go.Proofs.Ytmpahllkbpofnaa
