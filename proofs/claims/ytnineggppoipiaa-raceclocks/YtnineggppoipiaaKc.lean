/- The law RaceClocks: clocks are an order, joins are least: the walk. -/
import Derived.Test.YtnineggppoipiaaKr
namespace Go.Proofs.Ytnineggppoipiaa
open Go.ChangeShapes Go.WideShapes Go.ChangeAt Go.RowKit

def elQ : El Int := ⟨45, 3, 1, .int .i64 0, 8, fun n => [.int .i64 n]⟩
theorem elQ_ok : elQ.Ok where
  und := Try.underlying45
  info := by kernel_rfl
  len := fun _ => rfl
  one := fun x u hu => by simp [elQ] at hu; subst hu; rfl
  zlen := rfl
  bs := by decide
  pos := by decide
def ints (l : List Nat) : List Int := l.map Int.ofNat
theorem cgQ (l : List Int) : cg elQ l = l.map (Value.int .i64 ·) := by
  induction l with
  | nil => rfl
  | cons x l ih =>
    show elQ.f x ++ cg elQ l = _
    rw [ih]
    rfl
theorem own_rdI {w : World} {v : Value} {l : List Int} (h : OwnG elQ w v l) : RdI w v l := by
  have h' := h
  rcases h with ⟨rfl, rfl⟩ | ⟨g, o, cap, cur, rfl, hgg, hn, hm, hs, ht⟩
  · exact .inl ⟨rfl, rfl⟩
  · refine .inr ⟨g, o, cap, rfl, fun j u hu => h'.cells j u ?_⟩
    rw [cgQ]
    exact hu

set_option maxRecDepth 100000 in
set_option maxHeartbeats 1000000 in
theorem clk_any (w : World) (v : Value) (l : List Nat) (h : RdG elY w v l) (hb : ∀ c ∈ l, c < 256) (hl : l.length ≤ 13) : Calls Try.prog 29 #[v] w fun e w' => ∃ u, e = .returned u ∧ RdI w' u (ints l) ∧ Fr no w w' := by
  have HR : Hid (RdG elY w v l) := h
  have HB : Hid (∀ c ∈ l, c < 256) := hb
  obtain ⟨ad, cp, rfl⟩ := h.form
  clear h hb
  generalize hn : l.length = n at *
  go_enter Try.func29, Try.ntmps29
  go_wp2_with fail
  go_loopw [3, 4] (fun lv iv wr => ∃ (j : Nat) (sv : Value), sv = lv ∧ iv = .int .i64 (j : Int) ∧ j ≤ n ∧ Hid (OwnG elQ wr sv (ints (l.take j)) ∧ NewV w sv ∧ Fr no w wr)) (fun _ iv _ => n - (intOf iv).toNat)
  case atStart => exact ⟨0, _, rfl, rfl, Nat.zero_le _, OwnG.nil _ _, NewV.nil _, Fr.refl _ _⟩
  case round =>
    obtain ⟨j, sv, rfl, rfl, hj, HO⟩ := hrel
    have hj0 : (0 : Int) ≤ (j : Int) := by omega
    by_cases hlt : j < n
    · have hlt' : (j : Int) < (n : Int) := by omega
      obtain ⟨x, hx⟩ : ∃ x, l[j]? = some x := ⟨_, List.getElem?_eq_getElem (by omega)⟩
      obtain ⟨b, off, rfl, hc⟩ := RdG.at1 (HR.out.keep HO.out.2.2) rfl rfl hx
      have hx2 : x < 256 := HB.out x (List.mem_of_getElem? hx)
      have HT : Hid (ints (l.take (j + 1)) = ints (l.take j) ++ [(x : Int)]) := by rw [Hid, take_one hx]; unfold ints; simp
      have HL : Hid ((ints (l.take j)).length + [(x : Int)].length ≤ 1000000) := by
        rw [Hid]
        unfold ints
        rw [List.length_map, List.length_take, List.length_singleton]
        omega
      have HO1 : Hid (OwnG elQ (wr.alloc (.cells (elQ.f (x : Int)).toArray elQ.e)) sv (ints (l.take j))) := HO.out.1.keep ((Fr.refl no wr).alloc _ _)
      have HFR : Hid (Fr no w (wr.alloc (.cells (elQ.f (x : Int)).toArray elQ.e))) := HO.out.2.2.alloc _ _
      have HSR : Hid _ := srcG_one elQ_ok wr (x : Int)
      have HNV : Hid (NewV w sv) := HO.out.2.1
      clear hx HO
      go_wp2_with (at_builtin; refine wpList_apdG elQ_ok _ rfl rfl _ _ rfl sv (ints (l.take j)) rfl HO1.out _ rfl [(x : Int)] HSR.out HL.out ?_; intro v' w3 o3 s3; have H3 : Hid (OwnG elQ w3 v' (ints (l.take j) ++ [(x : Int)]) ∧ NewV w v' ∧ Fr no w w3) := ⟨o3, HNV.out.step HFR.out s3⟩; clear o3 s3)
      go_roundw
      case rel => exact ⟨j + 1, _, rfl, by congr 1, by omega, by rw [HT.out]; exact H3.out⟩
      case measure => simp [intOf]; omega
    · obtain rfl : j = n := by omega
      have HX : Hid (RdI wr sv (ints l) ∧ Fr no w wr) := by
        have := HO.out.1
        rw [List.take_of_length_le (by omega)] at this
        exact ⟨own_rdI this, HO.out.2.2⟩
      clear HO
      go_wp2_with fail
      go_ret
      exact ⟨_, rfl, HX.out⟩
end Go.Proofs.Ytnineggppoipiaa
