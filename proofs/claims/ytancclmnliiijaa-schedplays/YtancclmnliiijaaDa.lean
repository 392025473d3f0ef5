/- The document's threads in memory: Len, State, Over, Ready, Pick. -/
import Derived.Test.YtancclmnliiijaaSf
import Derived.Deep.CutBlock
namespace Go.Proofs.Ytancclmnliiijaa
open Go.ChangeShapes Go.WideShapes Go.ChangeAt Go.RowKit

/-- In block q, and in a row of its own: the document's threads L; all from c on. -/
structure DS (c : Nat) (w : World) (q : Nat) (L : List (Int × Int)) : Prop where
  cq : c ≤ q
  hd : ∃ vl, w.heap[q]? = some (.cells #[vl] 29 (0, 0)) ∧ OwnG elD w vl L ∧ ∀ b, vl.ownBlock = some b → c ≤ b
  le : L.length ≤ 12

/-- Where the row lies. -/
structure DX (c : Nat) (w : World) (q : Nat) (L : List (Int × Int)) (o : Option Addr) (cap : Nat) : Prop where
  cq : c ≤ q
  blk : w.heap[q]? = some (.cells #[.slice o L.length cap] 29 (0, 0))
  own : OwnG elD w (.slice o L.length cap) L
  cb : ∀ b, Value.ownBlock (.slice o L.length cap) = some b → c ≤ b
  le : L.length ≤ 12

section
variable {c : Nat} {w : World} {q : Nat} {L : List (Int × Int)} {o : Option Addr} {cap : Nat}

theorem DS.get (h : DS c w q L) : ∃ o cap, DX c w q L o cap := by
  obtain ⟨vl, h1, h2, h3⟩ := h.hd
  obtain ⟨o, cap, rfl⟩ := h2.form
  exact ⟨o, cap, h.cq, h1, h2, h3, h.le⟩

theorem DX.ds (h : DX c w q L o cap) : DS c w q L := ⟨h.cq, ⟨_, h.blk, h.own, h.cb⟩, h.le⟩

theorem DX.cell (h : DX c w q L o cap) : w.cell? ⟨q, 0, none⟩ = some (.slice o L.length cap) := by simp [World.cell?, h.blk]
theorem DX.thaw (h : DX c w q L o cap) : w.frozen? ⟨q, 0, none⟩ = false := by simp [World.frozen?, h.blk]

theorem DX.at (h : DX c w q L o cap) {i : Nat} {x : Int × Int} (hx : L[i]? = some x) : ∃ b r, o = some ⟨b, r, none⟩ ∧ w.cell? ⟨b, r + i * 2, none⟩ = some (.int .i64 x.1) ∧ w.cell? ⟨b, r + i * 2 + 1, none⟩ = some (.int .i64 x.2) ∧ ∀ k, w.frozen? ⟨b, k, none⟩ = false := by
  rcases h.own with ⟨-, hl⟩ | ⟨g, r, cap', cur, hv, hg, -⟩
  · rw [hl] at hx
    simp at hx
  · simp only [Value.slice.injEq] at hv
    obtain ⟨rfl, -, rfl⟩ := hv
    have c0 := h.own.cells (i * 2 + 0) _ (cg_get elD_ok L i x hx 0 (.int .i64 x.1) rfl)
    have c1 := h.own.cells (i * 2 + 1) _ (cg_get elD_ok L i x hx 1 (.int .i64 x.2) rfl)
    rw [← Nat.add_assoc] at c0 c1
    exact ⟨g, r, rfl, c0, c1, fun k => by simp [World.frozen?, hg]⟩

theorem DX.keep {w' : World} (h : DX c w q L o cap) (hf : Fr no w w') : DX c w' q L o cap := ⟨h.cq, hf.heap h.blk (fun f => f), h.own.keep hf, h.cb, h.le⟩
theorem DS.keep {w' : World} (h : DS c w q L) (hf : Fr no w w') : DS c w' q L := by
  obtain ⟨o, cap, k⟩ := h.get
  exact (k.keep hf).ds
theorem DX.tk {ts : List TypeId} {d : Nat} {w' : World} (h : DX c w q L o cap) (hf : Fr (Tk ts d w) w w') (h1 : 29 ∉ ts) (h2 : 65 ∉ ts) : DX c w' q L o cap := ⟨h.cq, hf.box h.blk h1, h.own.tk hf h2, h.cb, h.le⟩
theorem DS.tk {ts : List TypeId} {d : Nat} {w' : World} (h : DS c w q L) (hf : Fr (Tk ts d w) w w') (h1 : 29 ∉ ts) (h2 : 65 ∉ ts) : DS c w' q L := by
  obtain ⟨o, cap, k⟩ := h.get
  exact (k.tk hf h1 h2).ds

theorem dlen_any (h : DS c w q L) : Calls Try.prog 21 #[.pointer (some ⟨q, 0, none⟩)] w fun e w' => e = .returned (.int .i64 (L.length : Int)) ∧ w' = w := by
  obtain ⟨o, cap, k⟩ := h.get
  have hc := k.cell
  clear h k
  generalize L.length = n at *
  go_enter Try.func21, Try.ntmps21
  go_wp2_with fail
  go_ret
  exact ⟨rfl, rfl⟩

set_option maxRecDepth 100000 in
theorem dstate_any (h : DS c w q L) (id : Int) (hid : In id) : Calls Try.prog 28 #[.pointer (some ⟨q, 0, none⟩), .int .i64 id] w fun e w' => e = .returned (.int .i64 (stA L.length L id)) ∧ w' = w := by
  obtain ⟨o, cap, k⟩ := h.get
  have hc := k.cell
  have hle := k.le
  obtain ⟨hid1, hid2⟩ := hid
  by_cases h1 : id < 1
  · have HE : Hid (stA L.length L id = 0) := stA_no (.inl h1)
    clear h k
    go_enter Try.func28, Try.ntmps28
    go_wp2_with fail
    go_ret
    exact ⟨by rw [HE.out]; rfl, rfl⟩
  · by_cases h2 : (L.length : Int) < id
    · have HE : Hid (stA L.length L id = 0) := stA_no (.inr h2)
      clear h k
      go_enter Try.func28, Try.ntmps28
      generalize L.length = n at *
      go_wp2_with fail
      go_ret
      exact ⟨by rw [HE.out]; rfl, rfl⟩
    · obtain ⟨i, rfl⟩ : ∃ i : Nat, id = (i : Int) + 1 := ⟨(id - 1).toNat, by omega⟩
      obtain ⟨x, hx⟩ : ∃ x, L[i]? = some x := ⟨_, List.getElem?_eq_getElem (by omega)⟩
      have HE : Hid (stA L.length L ((i : Int) + 1) = x.1) := stA_yes (by omega) hx
      obtain ⟨b, r, rfl, c0, -, -⟩ := k.at hx
      have hil : (i : Int) < (L.length : Int) := by omega
      clear h k hx
      go_enter Try.func28, Try.ntmps28
      generalize L.length = n at *
      go_wp2_with fail
      go_ret
      exact ⟨by rw [HE.out]; rfl, rfl⟩

set_option maxRecDepth 100000 in
theorem dover_any (h : DS c w q L) : Calls Try.prog 25 #[.pointer (some ⟨q, 0, none⟩)] w fun e w' => e = .returned (.bool (ovr L.length L)) ∧ w' = w := by
  obtain ⟨o, cap, k⟩ := h.get
  have HK : Hid (DX c w q L o cap) := k
  have hc := k.cell
  have hle := k.le
  clear h k
  go_enter Try.func25, Try.ntmps25
  generalize hn : L.length = n at hc hle ⊢
  go_wp2_with fail
  go_loopw [3] (fun iv wr => ∃ i : Nat, iv = .int .i64 (i : Int) ∧ i ≤ n ∧ (∀ j x, j < i → L[j]? = some x → x.1 = 5) ∧ wr = w) (fun iv _ => 20 - (intOf iv).toNat)
  case atStart => exact ⟨0, rfl, Nat.zero_le _, fun j x a => by omega, rfl⟩
  case round =>
    obtain ⟨i, rfl, hi, hA, hwr⟩ := hrel
    subst hwr
    have HA : Hid (∀ j x, j < i → L[j]? = some x → x.1 = 5) := hA
    clear hA
    by_cases hin : i < n
    · have hin' : (i : Int) < (n : Int) := by omega
      obtain ⟨⟨x1, x2⟩, hx⟩ : ∃ x, L[i]? = some x := ⟨_, List.getElem?_eq_getElem (by omega)⟩
      obtain ⟨b, r, rfl, c0, -, -⟩ := HK.out.at hx
      simp only [] at c0
      by_cases hs : x1 = 5
      · have hs' : (x1 != 5) = false := by simp [hs]
        have HZ : Hid (∀ j x, j < i + 1 → L[j]? = some x → x.1 = 5) := fun j y a b => by
          by_cases e : j = i
          · subst e
            rw [hx] at b
            obtain rfl := Option.some.inj b
            exact hs
          · exact HA.out j y (by omega) b
        clear hs hx HA
        go_wp2_with fail
        go_roundw
        case rel => exact ⟨i + 1, by go_num, by omega, HZ.out, trivial⟩
        case measure => simp [intOf]; omega
      · have hs' : (x1 != 5) = true := by simp [hs]
        have HZ : Hid (ovr n L = false) := Bool.eq_false_iff.2 (fun e => hs ((ovr_iff _ L).1 e i _ (by omega) hx))
        clear hs hx HA
        go_wp2_with fail
        go_ret
        exact ⟨by rw [HZ.out]; rfl, rfl⟩
    · obtain rfl : i = n := by omega
      have HZ : Hid (ovr i L = true) := (ovr_iff _ L).2 HA.out
      go_wp2_with fail
      go_ret
      exact ⟨by rw [HZ.out]; rfl, rfl⟩

set_option maxRecDepth 100000 in
theorem dready_any (h : DS c w q L) : Calls Try.prog 23 #[.pointer (some ⟨q, 0, none⟩)] w fun e w' => ∃ o k cp, e = .returned (.slice o k cp) ∧ k = (sel rdy L L.length).length ∧ OwnG elI w' (.slice o k cp) (sel rdy L L.length) ∧ NewV w (.slice o k cp) ∧ Fr no w w' := by
  obtain ⟨o, cap, k⟩ := h.get
  have HK : Hid (DX c w q L o cap) := k
  have hle := k.le
  clear h k
  go_enter Try.func23, Try.ntmps23
  generalize hn : L.length = n at hle HK
  go_wp2_with fail
  go_loopw [3, 4] (fun lv iv wr => ∃ i : Nat, iv = .int .i64 (i : Int) ∧ i ≤ n ∧ OwnG elI wr lv (sel rdy L i) ∧ NewV w lv ∧ Fr no w wr) (fun _ iv _ => 20 - (intOf iv).toNat)
  case atStart => exact ⟨0, rfl, Nat.zero_le _, OwnG.nil _ _, NewV.nil _, Fr.refl _ _⟩
  case round =>
    obtain ⟨i, rfl, hi, how, hnv, hfr⟩ := hrel
    have KX := HK.out.keep hfr
    have hc := KX.cell
    rw [hn] at hc
    have HO : Hid (OwnG elI wr u3 (sel rdy L i) ∧ NewV w u3 ∧ Fr no w wr) := ⟨how, hnv, hfr⟩
    clear how hnv hfr
    by_cases hin : i < n
    · have hin' : (i : Int) < (n : Int) := by omega
      obtain ⟨⟨x1, x2⟩, hx⟩ : ∃ x, L[i]? = some x := ⟨_, List.getElem?_eq_getElem (by omega)⟩
      obtain ⟨b, r, rfl, c0, -, -⟩ := KX.at hx
      simp only [] at c0
      by_cases hs : x1 = 1
      · have hs' : (x1 == 1) = true := by simp [hs]
        have HS : Hid (sel rdy L (i + 1) = sel rdy L i ++ [(i : Int) + 1]) := sel_yes hx (by simp [rdy, hs])
        have HL : Hid ((sel rdy L i).length + [(i : Int) + 1].length ≤ 1000000) := by
          have := sel_len rdy L i
          simp only [Hid, List.length_cons, List.length_nil]
          omega
        have HO1 : Hid (OwnG elI (wr.alloc (.cells (elI.f ((i : Int) + 1)).toArray elI.e)) u3 (sel rdy L i)) := HO.out.1.keep ((Fr.refl no wr).alloc _ _)
        have HFR : Hid (Fr no w (wr.alloc (.cells (elI.f ((i : Int) + 1)).toArray elI.e))) := HO.out.2.2.alloc _ _
        have HSR : Hid _ := srcG_one elI_ok wr ((i : Int) + 1)
        have HNV : Hid (NewV w u3) := HO.out.2.1
        clear hx hs HO KX
        go_wp2_with (at_builtin; refine wpList_apdG elI_ok _ rfl rfl _ _ rfl u3 (sel rdy L i) rfl HO1.out _ rfl [(i : Int) + 1] HSR.out HL.out ?_; intro v' w3 o3 s3; have H3 : Hid (OwnG elI w3 v' (sel rdy L i ++ [(i : Int) + 1]) ∧ NewV w v' ∧ Fr no w w3) := ⟨o3, HNV.out.step HFR.out s3⟩; clear o3 s3)
        go_roundw
        case rel => exact ⟨i + 1, by go_num, by omega, by rw [HS.out]; exact H3.out.1, H3.out.2⟩
        case measure => simp [intOf]; omega
      · have hs' : (x1 == 1) = false := by simp [hs]
        have HS : Hid (sel rdy L (i + 1) = sel rdy L i) := sel_no hx (by simp [rdy, hs])
        clear hx hs KX
        go_wp2_with fail
        go_roundw
        case rel => exact ⟨i + 1, by go_num, by omega, by rw [HS.out]; exact HO.out.1, HO.out.2⟩
        case measure => simp [intOf]; omega
    · obtain rfl : i = n := by omega
      clear KX
      go_wp2_with fail
      go_ret
      obtain ⟨o', c', e⟩ := HO.out.1.form
      exact ⟨o', _, c', by rw [← e]; rfl, rfl, by rw [← e]; exact HO.out.1, by rw [← e]; exact HO.out.2.1, HO.out.2.2⟩

set_option maxRecDepth 100000 in
theorem dpick_any (h : DS c w q L) (k : Int) : Calls Try.prog 19 #[.pointer (some ⟨q, 0, none⟩), .int .i64 k] w fun e w' => e = .returned (.tuple #[.int .i64 (pkN (sel rdy L L.length) k), .bool (pkO (sel rdy L L.length))]) ∧ Fr no w w' := by
  have RD := dready_any h
  have hl := sel_len rdy L L.length
  have hle := h.le
  clear h
  generalize sel rdy L L.length = l at *
  go_enter Try.func19, Try.ntmps19
  go_wp2_with fail
  refine RD.mono ?_
  rintro _ w1 ⟨o, m, cap, rfl, hm, how, -, hfr⟩
  clear RD
  have HF : Hid (Fr no w w1) := hfr
  clear hfr
  cases l with
  | nil =>
    have hm0 : m = 0 := hm
    subst hm0
    have HZ : Hid (pkN [] k = 0) := pk_nil k
    clear how hm
    go_wp2_with fail
    go_ret2
    exact ⟨by rw [HZ.out]; rfl, HF.out⟩
  | cons y l =>
    obtain ⟨i, hi, hil, hix⟩ := pk_at (l := y :: l) k (by simp)
    have HO : Hid (pkO (y :: l) = true) := rfl
    generalize hx : pkN (y :: l) k = x at hix
    have HX : Hid (pkN (y :: l) k = x) := hx
    clear hx
    have hmp : 0 < (y :: l).length := by simp
    generalize y :: l = L2 at how hix hi hil hmp hl hm
    obtain ⟨b, off, rfl, c0⟩ := (how.rd elI_ok).at1 (u := .int .i64 x) rfl rfl hix
    clear how hix
    rw [← hm] at hi hil hmp hl
    clear hm
    have hm0 : ((m : Int) == 0) = false := by simp; omega
    have hil' : (i : Int) < (m : Int) := by omega
    have hm12 : m ≤ 12 := by omega
    clear hl hle
    have e1 : wrap64 (Int.tmod k (m : Int) + (m : Int)) = Int.tmod k (m : Int) + (m : Int) := by
      have hb : -(m : Int) ≤ Int.tmod k (m : Int) ∧ Int.tmod k (m : Int) ≤ (m : Int) := by
        have h3 := Int.emod_nonneg k (b := (m : Int)) (by omega)
        have h4 := Int.emod_lt_of_pos k (b := (m : Int)) (by omega)
        by_cases hneg : Int.tmod k (m : Int) < 0
        · have := tmod_neg (by omega) hneg
          omega
        · have := tmod_pos (by omega) hneg
          omega
      unfold wrap64
      omega
    have e2 : Int.tmod (Int.tmod k (m : Int) + (m : Int)) (m : Int) = (i : Int) := by
      by_cases hneg : Int.tmod k (m : Int) < 0
      · rw [tmod_neg (by omega) hneg, hi, Int.tmod_eq_emod_of_nonneg (by omega), Int.emod_eq_of_lt (by omega) (by omega)]
      · rw [tmod_pos (by omega) hneg, hi, Int.tmod_eq_emod_of_nonneg (by omega), Int.add_emod_right, Int.emod_eq_of_lt (by omega) (by omega)]
    clear hi
    go_wp2_with fail
    go_ret2
    exact ⟨by rw [HX.out, HO.out]; rfl, HF.out⟩
end
end Go.Proofs.Ytancclmnliiijaa
