/- The document's Free, Place. -/
import Derived.Test.YtopcbcdigllenaaRf
namespace Go.Proofs.Ytopcbcdigllenaa
open Go.ChangeShapes Go.WideShapes Go.ChangeAt Go.RowKit

/-- What lies between the objects, from an address on. -/
def gaps (size : Int) : Int → List Ob → List (Int × Int)
  | a, [] => if a < size + 1 then [(a, size + 1 - a)] else []
  | a, o :: r => (if a < o.at_ then [(a, o.at_ - a)] else []) ++ gaps size (o.at_ + 2 + (o.ws.length : Int)) r

/-- Objects that an arena may have. -/
def Low (T : List Ob) : Prop := ∀ o ∈ T, 0 < o.at_ ∧ o.at_ + (o.ws.length : Int) + 2 ≤ 4000

/-- What is told when the loop stands at k. -/
def GapAt (size : Int) (T : List Ob) (k : Nat) (acc : List (Int × Int)) (a : Int) : Prop :=
  (k ≤ T.length → gaps size 1 T = acc ++ gaps size a (T.drop k)) ∧ (k = T.length + 1 → gaps size 1 T = acc) ∧ acc.length ≤ k ∧ 0 ≤ a ∧ a ≤ 5000

theorem GapAt.next {size : Int} {T : List Ob} {k : Nat} {acc : List (Int × Int)} {a : Int} (h : GapAt size T k acc a) (hT : Low T) {o : Ob} (ho : T[k]? = some o) :
    GapAt size T (k + 1) (if a < o.at_ then acc ++ [(a, o.at_ - a)] else acc) (o.at_ + 2 + (o.ws.length : Int)) := by
  obtain ⟨h1, h2, h3, h4, h5⟩ := h
  obtain ⟨hlt, rfl⟩ := List.getElem?_eq_some_iff.1 ho
  have hb := hT T[k] (List.getElem_mem hlt)
  refine ⟨fun _ => ?_, fun e => by omega, ?_, by omega, by omega⟩
  · rw [h1 (by omega), List.drop_eq_getElem_cons hlt, gaps]
    split <;> simp
  · split
    · simp; omega
    · omega

theorem GapAt.last {size : Int} {T : List Ob} {acc : List (Int × Int)} {a : Int} (h : GapAt size T T.length acc a) :
    GapAt size T (T.length + 1) (if a < size + 1 then acc ++ [(a, size + 1 - a)] else acc) a := by
  obtain ⟨h1, h2, h3, h4, h5⟩ := h
  refine ⟨fun e => by omega, fun _ => ?_, ?_, h4, h5⟩
  · rw [h1 (Nat.le_refl _), List.drop_length, gaps]
    split <;> simp
  · split
    · simp; omega
    · omega

set_option maxRecDepth 100000 in
set_option maxHeartbeats 2000000 in
theorem refFree_any (w : World) (q g : Nat) (size : Int) (T : List Ob) (h : RR w q g size T) (hs : 0 ≤ size ∧ size ≤ 2048) (hT : Low T) (hl : T.length ≤ 3000) :
    Calls Try.prog 46 #[.pointer (some ⟨q, 0, none⟩)] w fun e w' => ∃ v, e = .returned v ∧ OwnG elB w' v (gaps size 1 T) ∧ NewV w v ∧ Fr no w w' := by
  have HH : Hid (RR w q g size T) := h
  obtain ⟨ad, cap, -, hc0, -⟩ := h.cells
  have HC : Hid (∀ wr, Fr no w wr → wr.cell? ⟨q, 0, none⟩ = some (.int .i64 size) ∧ wr.cell? ⟨q, 1, none⟩ = some (.slice ad T.length cap) ∧ RdG elO wr (.slice ad T.length cap) T) := fun wr f => by
    obtain ⟨ad', cap', h1, h2, h3⟩ := (h.keep f).cells
    have e := f.cell hc0 (fun x => x)
    rw [e] at h2
    simp only [Option.some.injEq, Value.slice.injEq, true_and] at h2
    obtain ⟨rfl, rfl⟩ := h2
    exact ⟨h1, e, h3⟩
  have HT : Hid (Low T) := hT
  clear h hc0 hT
  go_enter Try.func46, Try.ntmps46
  go_wp2_with fail
  go_loopw [3, 4, 5] (fun lv av i wr => ∃ (k : Nat) (acc : List (Int × Int)) (a : Int), i = .int .i64 (k : Int) ∧ av = .int .i64 a ∧ k ≤ T.length + 1 ∧ GapAt size T k acc a ∧ OwnG elB wr lv acc ∧ NewV w lv ∧ Fr no w wr) (fun _ _ i _ => T.length + 1 - (intOf i).toNat)
  case atStart => exact ⟨0, [], 1, rfl, rfl, Nat.zero_le _, ⟨fun _ => rfl, fun e => by omega, Nat.le_refl _, by omega, by omega⟩, OwnG.nil _ _, NewV.nil _, Fr.refl _ _⟩
  case round =>
    obtain ⟨k, acc, a, rfl, rfl, hk, hg, ho, hv, hf⟩ := hrel
    obtain ⟨hc1, hc2, hrd⟩ := HC.out wr hf
    obtain ⟨ov, cv, hvf⟩ := ho.form
    have HG : Hid (GapAt size T k acc a) := hg
    have HX : Hid (OwnG elB wr u3 acc ∧ NewV w u3 ∧ Fr no w wr) := ⟨ho, hv, hf⟩
    have hacc : acc.length ≤ 3001 := by have := hg.2.2.1; omega
    have ha0 : 0 ≤ a ∧ a ≤ 5000 := hg.2.2.2
    by_cases hlt : k < T.length
    · obtain ⟨x, hx⟩ : ∃ x, T[k]? = some x := ⟨_, List.getElem?_eq_getElem hlt⟩
      obtain ⟨b, off, had, d1, -, d3⟩ := hrd.at3 hx
      subst had
      have hb := HT.out x (List.mem_of_getElem? hx)
      have HD : Hid (∀ w3, Fr no w w3 → w3.cell? ⟨q, 1, none⟩ = some (.slice (some ⟨b, off, none⟩) T.length cap) ∧ w3.cell? ⟨b, off + k * 3 + 2, none⟩ = some x.sl) := fun w3 f3 => by
        obtain ⟨-, e2, e3⟩ := HC.out w3 f3
        obtain ⟨b', off', had', -, -, d3'⟩ := e3.at3 hx
        obtain ⟨r1, r2⟩ := same_at rfl had'
        rw [r1, r2] at d3'
        exact ⟨e2, d3'⟩
      have HN := hg.next HT.out hx
      have HNX : Hid (GapAt size T (k + 1) (if a < x.at_ then acc ++ [(a, x.at_ - a)] else acc) (x.at_ + 2 + (x.ws.length : Int))) := HN
      clear HN hg ho hv hf hrd hx
      unfold Ob.sl at d3 HD
      generalize hxl : x.ws.length = xl at *
      generalize x.at_ = xa at *
      generalize Option.map _ x.blk = xb at *
      generalize hn : T.length = n at *
      have t1 : (k : Int) ≤ (n : Int) := by omega
      have t2 : (k : Int) < (n : Int) := by omega
      clear HC
      by_cases hgt : a < xa
      · rw [if_pos hgt] at HNX
        subst hvf
        generalize hal : acc.length = al at *
        have HO1 : Hid (OwnG elB (wr.alloc (.cells (elB.f (a, xa - a)).toArray elB.e)) (.slice ov al cv) acc) := HX.out.1.keep ((Fr.refl no wr).alloc _ _)
        have HF1 : Hid (Fr no w (wr.alloc (.cells (elB.f (a, xa - a)).toArray elB.e))) := HX.out.2.2.alloc _ _
        have HLEM : Hid (∀ v' w3, OwnG elB w3 v' (acc ++ [(a, xa - a)]) → Sp (.slice ov al cv) (wr.alloc (.cells (elB.f (a, xa - a)).toArray elB.e)) v' w3 → (OwnG elB w3 v' (acc ++ [(a, xa - a)]) ∧ NewV w v' ∧ Fr no w w3) ∧ w3.cell? ⟨q, 1, none⟩ = some (.slice (some ⟨b, off, none⟩) n cap) ∧ w3.cell? ⟨b, off + k * 3 + 2, none⟩ = some (.slice xb xl xl)) := fun v' w3 o3 s3 => by
          obtain ⟨nv3, f3⟩ := HX.out.2.1.step HF1.out s3
          exact ⟨⟨o3, nv3, f3⟩, HD.out w3 f3⟩
        go_wp2_with (at_builtin; refine wpList_apdG elB_ok _ rfl rfl _ _ rfl (.slice ov al cv) acc rfl HO1.out _ rfl [(a, xa - a)] (srcG_one elB_ok wr (a, xa - a)) (by simp; omega) ?_; intro v' w3 o3 s3; obtain ⟨h3, e2, e3⟩ := HLEM.out v' w3 o3 s3; have H3 : Hid (OwnG elB w3 v' (acc ++ [(a, xa - a)]) ∧ NewV w v' ∧ Fr no w w3) := h3; clear o3 s3 h3)
        go_roundw
        case rel => exact ⟨k + 1, _, _, by go_num, rfl, by omega, HNX.out, H3.out.1, H3.out.2.1, H3.out.2.2⟩
        case measure => simp [intOf]; omega
      · rw [if_neg hgt] at HNX
        clear hvf
        go_wp2_with fail
        go_roundw
        case rel => exact ⟨k + 1, _, _, by go_num, rfl, by omega, HNX.out, HX.out.1, HX.out.2.1, HX.out.2.2⟩
        case measure => simp [intOf]; omega
    · by_cases hke : k = T.length
      · have HN := (hke ▸ hg : GapAt size T T.length acc a).last
        have HNX : Hid (GapAt size T (k + 1) (if a < size + 1 then acc ++ [(a, size + 1 - a)] else acc) a) := by rw [Hid, hke]; exact HN
        have HD : Hid (∀ w3, Fr no w w3 → w3.cell? ⟨q, 1, none⟩ = some (.slice ad T.length cap)) := fun w3 f3 => (HC.out w3 f3).2.1
        clear HN hg ho hv hf hrd
        generalize hn : T.length = n at *
        have t1 : (k : Int) ≤ (n : Int) := by omega
        have t2 : ¬ ((k : Int) < (n : Int)) := by omega
        clear HC hke
        by_cases hgt : a < size + 1
        · rw [if_pos hgt] at HNX
          subst hvf
          generalize hal : acc.length = al at *
          have HO1 : Hid (OwnG elB (wr.alloc (.cells (elB.f (a, size + 1 - a)).toArray elB.e)) (.slice ov al cv) acc) := HX.out.1.keep ((Fr.refl no wr).alloc _ _)
          have HF1 : Hid (Fr no w (wr.alloc (.cells (elB.f (a, size + 1 - a)).toArray elB.e))) := HX.out.2.2.alloc _ _
          have HLEM : Hid (∀ v' w3, OwnG elB w3 v' (acc ++ [(a, size + 1 - a)]) → Sp (.slice ov al cv) (wr.alloc (.cells (elB.f (a, size + 1 - a)).toArray elB.e)) v' w3 → (OwnG elB w3 v' (acc ++ [(a, size + 1 - a)]) ∧ NewV w v' ∧ Fr no w w3) ∧ w3.cell? ⟨q, 1, none⟩ = some (.slice ad n cap)) := fun v' w3 o3 s3 => by
            obtain ⟨nv3, f3⟩ := HX.out.2.1.step HF1.out s3
            exact ⟨⟨o3, nv3, f3⟩, HD.out w3 f3⟩
          go_wp2_with (at_builtin; refine wpList_apdG elB_ok _ rfl rfl _ _ rfl (.slice ov al cv) acc rfl HO1.out _ rfl [(a, size + 1 - a)] (srcG_one elB_ok wr (a, size + 1 - a)) (by simp; omega) ?_; intro v' w3 o3 s3; obtain ⟨h3, e2⟩ := HLEM.out v' w3 o3 s3; have H3 : Hid (OwnG elB w3 v' (acc ++ [(a, size + 1 - a)]) ∧ NewV w v' ∧ Fr no w w3) := h3; clear o3 s3 h3)
          go_roundw
          case rel => exact ⟨k + 1, _, _, by go_num, rfl, by omega, HNX.out, H3.out.1, H3.out.2.1, H3.out.2.2⟩
          case measure => simp [intOf]; omega
        · rw [if_neg hgt] at HNX
          clear hvf
          go_wp2_with fail
          go_roundw
          case rel => exact ⟨k + 1, _, _, by go_num, rfl, by omega, HNX.out, HX.out.1, HX.out.2.1, HX.out.2.2⟩
          case measure => simp [intOf]; omega
      · have HE : Hid (gaps size 1 T = acc) := hg.2.1 (by omega)
        clear hg ho hv hf hrd hvf HC
        generalize hn : T.length = n at *
        have t1 : ¬ ((k : Int) ≤ (n : Int)) := by omega
        go_wp2_with fail
        go_ret
        exact ⟨_, rfl, by rw [HE.out]; exact HX.out.1, HX.out.2.1, HX.out.2.2⟩
end Go.Proofs.Ytopcbcdigllenaa
