/- The program's print of tokens. -/
import Derived.Test.YtmpahllkbpofnaaPh
import Derived.Test.YtmpahllkbpofnaaXe
import Derived.Test.YtmpahllkbpofnaaYa
namespace Go.Proofs.Ytmpahllkbpofnaa
open Go.ChangeShapes Go.WideShapes Go.ChangeAt Go.RowKit

theorem BuU.bu {B b : Nat} {bs : List Value} {w : World} (h : BuU B b bs w) : Bu B b bs w := .inr h
theorem at_alloc {B b : Nat} {p : Value} {bs : List Value} {w : World} (h : Lib.BuilderAt 58 5 B b p bs w) (o : Obj) : Lib.BuilderAt 58 5 B b p bs (w.alloc o) := by
  have hlt := h.lt
  obtain ⟨hB, v, hb, ho, hne⟩ := h
  exact ⟨hB, v, (Lib.alloc_old w o b hlt).trans hb, ho.alloc o, hne⟩
theorem Bu.alloc {B b : Nat} {bs : List Value} {w : World} (h : Bu B b bs w) (o : Obj) : Bu B b bs (w.alloc o) := by
  rcases h with h | h
  · exact .inl (at_alloc h o)
  · exact .inr (at_alloc h o)
abbrev cellsT (a : ByteArray) : List Value := Lib.byteCells a.data.toList
theorem cellsT_app (a s : ByteArray) : cellsT a ++ Lib.strCells s = cellsT (a ++ s) := by
  rw [Lib.strCells_eq, ← Lib.byteCells_append]
  congr 1
theorem cellsT_byte (a : ByteArray) : cellsT a ++ [.int .u8 32] = cellsT (a ++ ⟨#[32]⟩) := cellsT_app a ⟨#[32]⟩
theorem cellsT_len (a : ByteArray) : (cellsT a).length = a.size := by
  rw [Lib.byteCells_length]
  simp
theorem below_fr2 {w w' : World} {B : Nat} (hB : B = w.heap.size) (h : Below B w w') : Fr no w w' :=
  ⟨h.os, h.output, h.size, fun k hk _ => h.block k (by omega), fun a ha => by
    unfold World.frozen?
    rw [h.block a.block (by omega)]⟩

set_option maxRecDepth 100000 in
set_option maxHeartbeats 4000000 in
theorem pPrint (w : World) (v : Value) (l : List Tk) (hv : SlG elK w v l) (hl : l.length ≤ 50000) (hT : ∀ (k : Nat) (h : k < l.length), l[k].text.size ≤ 8000 ∧ (¬ l[k].kind = 6 → 0 < l[k].text.size)) :
    Calls Try.prog 14 #[v] w fun e w' => e = .returned (.string (prT ⟨#[]⟩ l)) ∧ Fr no w w' := by
  have scx := store_cx
  generalize hR : prT ⟨#[]⟩ l = R
  have HR : Hid (prT ⟨#[]⟩ l = R) := hR
  have HTX : Hid (∀ (k : Nat) (h : k < l.length), l[k].text.size ≤ 8000 ∧ (¬ l[k].kind = 6 → 0 < l[k].text.size)) := hT
  clear hR hT
  obtain ⟨oo, cc, rfl⟩ := hv.form
  have HV : Hid (SlG elK w (.slice oo l.length cc) l) := hv
  clear hv
  go_enter Try.func14, Try.ntmps14
  go_wp2_with fail
  go_loopw [4, 9] (fun fv iv wr => ∃ (k : Nat) (a : ByteArray), iv = .int .i64 (k : Int) ∧ fv = .bool a.toList.isEmpty ∧ k ≤ l.length ∧ a.size ≤ 8001 * k ∧ Bu w.heap.size w.heap.size (cellsT a) wr ∧ Below w.heap.size w wr ∧ Hid (prT a (l.drop k) = R)) (fun _ iv _ => l.length - (intOf iv).toNat)
  case atStart => exact ⟨0, ⟨#[]⟩, rfl, by rw [Y.size_list]; rfl, by omega, Nat.le_refl _, .inl ⟨Nat.le_refl _, .slice none 0 0, heap_alloc_new w _, World.ownsRow_nil _ _ _ _, by simp [Value.ownBlock]⟩, (Below.refl _ w).alloc (Nat.le_refl _) _, HR.out⟩
  case round =>
    obtain ⟨k, a, rfl, rfl, hk, hsz, hbu, hbl, HK⟩ := hrel
    have HBU : Hid (Bu w.heap.size w.heap.size (cellsT a) wr ∧ Below w.heap.size w wr ∧ w.heap.size ≤ wr.heap.size) := ⟨hbu, hbl, hbl.size⟩
    have HVr := HV.out.keep (below_fr2 rfl hbl)
    have HSZ : Hid (a.size ≤ 8001 * k ∧ (cellsT a).length = a.size) := ⟨hsz, cellsT_len a⟩
    clear hbu hbl hsz
    have hk0 : (0 : Int) ≤ (k : Int) := by omega
    by_cases hlt : k < l.length
    · have hlt' : (k : Int) < (l.length : Int) := by omega
      obtain ⟨b, off, ho, hc⟩ := sl_tk HVr hlt
      subst ho
      have c0 := hc 0 _ rfl
      rw [Nat.add_zero] at c0
      have c1 := hc 1 _ rfl
      have c2 := hc 2 _ rfl
      have c3 := hc 3 _ rfl
      have c4 := hc 4 _ rfl
      have HTS : Hid _ := HTX.out k hlt
      clear hc HVr
      by_cases h6 : l[k].kind = 6
      · have h6' : (l[k].kind == 6) = true := by simp [h6]
        have HG : Hid _ := prT_skip HK.out hlt h6
        go_wp2_with fail
        go_roundw
        case rel => exact ⟨k + 1, a, by congr 1, rfl, by omega, by have := HSZ.out.1; omega, HBU.out.1.alloc _, HBU.out.2.1.alloc HBU.out.2.2 _, HG.out⟩
        case measure => simp [intOf]; omega
      · have h6' : (l[k].kind == 6) = false := by simp [h6]
        have HG0 := prT_take HK.out hlt h6
        cases he : a.toList.isEmpty
        · rw [he] at HG0
          have HG : Hid _ := HG0
          clear HG0
          go_wp2_with fail
          refine (wrByte w.heap.size w.heap.size (cellsT a) 32 _ (HBU.out.1.alloc _) (by have := HSZ.out; omega) (Nat.le_trans HBU.out.2.2 ((Fr.refl no wr).alloc _ _).size)).mono ?_
          rintro _ w2 ⟨rfl, h2, hb2, hk2⟩
          have hB2 := hk2 _ _ _ _ (heap_alloc_new wr _) (by decide) (by decide)
          have h02 := (HBU.out.2.1.alloc HBU.out.2.2 _).trans hb2
          rw [cellsT_byte] at h2
          have HB2 : Hid (BuU w.heap.size w.heap.size (cellsT (a ++ ⟨#[32]⟩)) w2 ∧ Below w.heap.size w w2 ∧ w.heap.size ≤ w2.heap.size ∧ (cellsT (a ++ ⟨#[32]⟩)).length = a.size + 1) := ⟨h2, h02, h02.size, by rw [cellsT_len, Y.size_app]; rfl⟩
          clear h2 h02 hb2 hk2
          generalize wr.heap.size = r at *
          obtain ⟨e0, e1, e2, e3, e4⟩ := box5 hB2
          clear hB2
          go_wp2_with fail
          refine (wrText w.heap.size w.heap.size (cellsT (a ++ ⟨#[32]⟩)) l[k].text _ (.inr HB2.out.1) (by have := HSZ.out; have := HTS.out.1; have := HB2.out.2.2.2; omega) HB2.out.2.2.1).mono ?_
          rintro _ w3 ⟨rfl, h3, hb3, -⟩
          rw [cellsT_app] at h3
          have HE : Hid (Bu w.heap.size w.heap.size (cellsT (a ++ ⟨#[32]⟩ ++ l[k].text)) w3 ∧ Below w.heap.size w w3) := ⟨.inr h3, HB2.out.2.1.trans hb3⟩
          clear h3 hb3
          have HN : Hid ((a ++ ⟨#[32]⟩ ++ l[k].text).toList.isEmpty = false ∧ (a ++ ⟨#[32]⟩ ++ l[k].text).size ≤ 8001 * (k + 1)) := by
            have h1 := HSZ.out.1
            have h2 := HTS.out.1
            have h3 := HTS.out.2 h6
            refine ⟨?_, ?_⟩
            · rw [Y.size_list]
              refine decide_eq_false ?_
              simp only [Y.size_app]
              omega
            · simp only [Y.size_app]
              have : (⟨#[32]⟩ : ByteArray).size = 1 := rfl
              omega
          go_wp2_with fail
          go_roundw
          case rel => exact ⟨k + 1, _, by congr 1, by rw [HN.out.1], by omega, HN.out.2, HE.out.1, HE.out.2, HG.out⟩
          case measure => simp [intOf]; omega
        · rw [he] at HG0
          have HG : Hid _ := HG0
          clear HG0
          go_wp2_with fail
          refine (wrText w.heap.size w.heap.size (cellsT a) l[k].text _ (HBU.out.1.alloc _) (by have := HSZ.out; have := HTS.out.1; omega) (Nat.le_trans HBU.out.2.2 ((Fr.refl no wr).alloc _ _).size)).mono ?_
          rintro _ w3 ⟨rfl, h3, hb3, -⟩
          rw [cellsT_app] at h3
          have HE : Hid (Bu w.heap.size w.heap.size (cellsT (a ++ l[k].text)) w3 ∧ Below w.heap.size w w3) := ⟨.inr h3, (HBU.out.2.1.alloc HBU.out.2.2 _).trans hb3⟩
          clear h3 hb3
          have HN : Hid ((a ++ l[k].text).toList.isEmpty = false ∧ (a ++ l[k].text).size ≤ 8001 * (k + 1)) := by
            have h1 := HSZ.out.1
            have h2 := HTS.out.1
            have h3 := HTS.out.2 h6
            refine ⟨?_, ?_⟩
            · rw [Y.size_list]
              refine decide_eq_false ?_
              simp only [Y.size_app]
              omega
            · simp only [Y.size_app]
              have : (⟨#[32]⟩ : ByteArray).size = 1 := rfl
              omega
          go_wp2_with fail
          go_roundw
          case rel => exact ⟨k + 1, _, by congr 1, by rw [HN.out.1], by omega, HN.out.2, HE.out.1, HE.out.2, HG.out⟩
          case measure => simp [intOf]; omega
    · have hlt' : ¬ (k : Int) < (l.length : Int) := by omega
      have hRa := prT_end HK.out hlt
      subst hRa
      have ST := Try.Builder_String_any w.heap.size w.heap.size R.data.toList wr HBU.out.1 HBU.out.2.2
      go_wp2_with fail
      refine ST.mono ?_
      rintro _ w2 ⟨rfl, hb2⟩
      go_wp2_with fail
      go_ret
      exact ⟨by simp, below_fr2 rfl (HBU.out.2.1.trans hb2)⟩
end Go.Proofs.Ytmpahllkbpofnaa
