/- GcTwice: the roots. -/
import Derived.Test.YtopcbcdigllenaaRw
import Derived.Deep.QuietTactic
import Derived.BigQuiet
namespace Go.Proofs.Ytopcbcdigllenaa
open Go.ChangeShapes Go.WideShapes Go.ChangeAt Go.RowKit

noncomputable def tw_atC : Code := ((Try.f7.body.bind (blockOf 0)).getD .skip)

set_option maxRecDepth 100000 in
set_option maxHeartbeats 8000000 in
theorem tw_at (w wz : World) (p g ln cl rn cr : Nat) (ol orr : Option Addr) (bs : List Blk) (L : List Int) (roots : List Nat)
    (hln : L.length = ln) (hl30 : ln ≤ 30) (hrn : roots.length = rn) (hr20 : rn ≤ 20) (hst : St w wz p g bs [(.slice ol ln cl, L), (.slice none 0 0, []), (.slice none 0 0, [])]) (hrd : RdG elY w (.slice orr rn cr) roots) (hrb : ∀ x ∈ roots, x < 256)
    (K : Act → World → Prop) (Q : Exit → Act → World → Prop) (c0 c2 c3 c4 c5 c6 c7 c8 c10 c12 c14 c15 c16 c17 c18 c19 c20 c21 c22 c23 c24 c25 c26 c27 c28 c29 c30 c31 c32 c33 c34 c35 c36 c37 c38 c39 c40 c41 c42 c43 c44 c45 c46 c47 c48 c49 c50 c51 c52 c53 c54 c55 c56 c57 c58 c59 c60 c61 c62 c63 c64 c65 c66 c67 c68 c69 c70 c71 c72 c73 c74 c75 c76 c77 c78 c79 c80 c81 c82 c83 c84 c85 c86 c87 c88 c89 c90 c91 c92 c93 c94 c95 c96 c97 c98 c99 c100 c101 c102 c103 c104 c105 c106 c107 c108 c109 c110 c111 c112 c113 c114 c115 c116 c117 c118 c119 c120 c121 c122 c123 c124 c125 c126 c127 c128 c129 c130 c131 c132 c133 c134 c135 c136 c137 c138 c139 c140 c141 c142 c143 c144 c145 c146 c147 c148 c149 c150 : Value)
    (hQ : ∀ (d11 d13 d42 d43 d44 d45 d46 d47 d48 d49 d50 d51 d52 d53 d54 d55 d56 d57 d58 d59 d60 d61 d62 d63 d64 d65 d66 : Value) (wc : World) (A : List Int), St w wc p g bs [(.slice ol ln cl, L), (d11, A), (.slice none 0 0, [])] → A.length ≤ 20 → (∀ a ∈ A, a ∈ L) → K { tmps := #[c0, .slice orr rn cr, c2, c3, c4, c5, c6, c7, c8, .slice ol ln cl, c10, d11, c12, d13, c14, c15, c16, c17, c18, c19, c20, c21, c22, c23, c24, c25, c26, c27, c28, c29, c30, c31, c32, c33, c34, c35, c36, c37, c38, c39, c40, c41, d42, d43, d44, d45, d46, d47, d48, d49, d50, d51, d52, d53, d54, d55, d56, d57, d58, d59, d60, d61, d62, d63, d64, d65, d66, c67, c68, c69, c70, c71, c72, c73, c74, c75, c76, c77, c78, c79, c80, c81, c82, c83, c84, c85, c86, c87, c88, c89, c90, c91, c92, c93, c94, c95, c96, c97, c98, c99, c100, c101, c102, c103, c104, c105, c106, c107, c108, c109, c110, c111, c112, c113, c114, c115, c116, c117, c118, c119, c120, c121, c122, c123, c124, c125, c126, c127, c128, c129, c130, c131, c132, c133, c134, c135, c136, c137, c138, c139, c140, c141, c142, c143, c144, c145, c146, c147, c148, c149, c150], defers := [] } wc) :
    Code.wp Try.prog tw_atC (Exit.then K Q) { tmps := #[c0, .slice orr rn cr, c2, c3, c4, c5, c6, c7, c8, .slice ol ln cl, c10, .slice none 0 0, c12, .int .i64 0, c14, c15, c16, c17, c18, c19, c20, c21, c22, c23, c24, c25, c26, c27, c28, c29, c30, c31, c32, c33, c34, c35, c36, c37, c38, c39, c40, c41, c42, c43, c44, c45, c46, c47, c48, c49, c50, c51, c52, c53, c54, c55, c56, c57, c58, c59, c60, c61, c62, c63, c64, c65, c66, c67, c68, c69, c70, c71, c72, c73, c74, c75, c76, c77, c78, c79, c80, c81, c82, c83, c84, c85, c86, c87, c88, c89, c90, c91, c92, c93, c94, c95, c96, c97, c98, c99, c100, c101, c102, c103, c104, c105, c106, c107, c108, c109, c110, c111, c112, c113, c114, c115, c116, c117, c118, c119, c120, c121, c122, c123, c124, c125, c126, c127, c128, c129, c130, c131, c132, c133, c134, c135, c136, c137, c138, c139, c140, c141, c142, c143, c144, c145, c146, c147, c148, c149, c150], defers := [] } wz := by
  have HQ : Hid _ := hQ
  clear hQ
  have H0 : Hid _ := hst
  have HR : Hid (RdG elY w (.slice orr rn cr) roots ∧ ∀ x ∈ roots, x < 256) := ⟨hrd, hrb⟩
  clear hst hrd hrb
  conv => arg 2; whnf
  go_wp2_with fail
  go_loopw [11, 13] (fun lv i wx => ∃ (t : Nat) (A : List Int), i = .int .i64 (t : Int) ∧ t ≤ rn ∧ St w wx p g bs [(.slice ol ln cl, L), (lv, A), (.slice none 0 0, [])] ∧ A.length ≤ t ∧ ∀ a ∈ A, a ∈ L) (fun _ i _ => rn - (intOf i).toNat)
  case atStart => exact ⟨0, [], rfl, Nat.zero_le _, H0.out, Nat.le_refl _, fun a ha => by simp at ha⟩
  case round =>
    clear H0
    obtain ⟨t, A, rfl, htn, hst, hal, hin⟩ := hrel
    by_cases h2 : t < rn
    · have h2' : (t : Int) < (rn : Int) := by omega
      by_cases h0 : 0 < ln
      · have h0' : (0 : Int) < (ln : Int) := by omega
        obtain ⟨y, hy⟩ : ∃ y, roots[t]? = some y := ⟨_, List.getElem?_eq_getElem (by omega)⟩
        have hyb := HR.out.2 y (List.mem_of_getElem? hy)
        obtain ⟨b0, o0, hov, hcy⟩ := (HR.out.1.keep hst.fr).at1 (u := .int .u8 (y : Int)) rfl rfl hy
        subst hov
        obtain ⟨kk, hkk⟩ : ∃ kk : Nat, kk = y % ln := ⟨_, rfl⟩
        have ek : (y : Int) % (ln : Int) = (kk : Int) := by rw [hkk]; rfl
        have ek' : (y : Int).tmod (ln : Int) = (kk : Int) := by rw [hkk]; rfl
        have hkt : kk < ln := by rw [hkk]; exact Nat.mod_lt _ h0
        have hkt' : (kk : Int) < (ln : Int) := by omega
        have ht0 : ¬ ((ln : Int) = 0) := by omega
        obtain ⟨a, ha⟩ : ∃ a, L[kk]? = some a := ⟨_, List.getElem?_eq_getElem (by omega)⟩
        obtain ⟨b1, o1, hol, hca⟩ := hst.at (i := 0) rfl ha _ _ _ rfl
        subst hol
        have HM5 : Hid (St w (wr.alloc (.cells (elI.f a).toArray elI.e)) p g bs [(.slice (some ⟨b1, o1, none⟩) ln cl, L), (u11, A), (.slice none 0 0, [])]) := hst.keep ((Fr.refl no wr).alloc _ _)
        have HO5 : Hid (OwnG elI (wr.alloc (.cells (elI.f a).toArray elI.e)) u11 A) := HM5.out.own 1 _ rfl
        have HIN : Hid (a ∈ L ∧ ∀ a ∈ A, a ∈ L) := ⟨List.mem_of_getElem? ha, hin⟩
        clear hst hin hy ha hkk
        go_wp2_with (at_builtin; refine wpList_apdG elI_ok _ rfl rfl _ _ rfl u11 A rfl HO5.out _ rfl [a] (srcG_one elI_ok wr a) (by simp; omega) ?_; intro v' w6 o6 s6; have H6 : Hid (St w w6 p g bs [(.slice (some ⟨b1, o1, none⟩) ln cl, L), (v', A ++ [a]), (.slice none 0 0, [])]) := HM5.out.push (i := 1) rfl o6 s6; clear o6 s6)
        go_roundw
        case rel =>
          refine ⟨t + 1, A ++ [a], by go_num, by omega, H6.out, by simp; omega, fun x hx => ?_⟩
          rcases List.mem_append.1 hx with hx | hx
          · exact HIN.out.2 x hx
          · simp only [List.mem_singleton] at hx
            subst hx
            exact HIN.out.1
        case measure => simp [intOf]; omega
      · have h0' : ¬ ((0 : Int) < (ln : Int)) := by omega
        have HX : Hid _ := hst
        clear hst
        go_wp2_with fail
        exact HQ.out _ _ _ _ _ _ _ _ _ _ _ _ _ _ _ _ _ _ _ _ _ _ _ _ _ _ _ _ A HX.out (by omega) hin
    · have h2' : ¬ ((t : Int) < (rn : Int)) := by omega
      have HX : Hid _ := hst
      clear hst
      go_wp2_with fail
      exact HQ.out _ _ _ _ _ _ _ _ _ _ _ _ _ _ _ _ _ _ _ _ _ _ _ _ _ _ _ _ A HX.out (by omega) hin
end Go.Proofs.Ytopcbcdigllenaa

/- GcTwice: whether one is among the roots. -/
namespace Go.Proofs.Ytopcbcdigllenaa
open Go.ChangeShapes Go.WideShapes Go.ChangeAt Go.RowKit

noncomputable def tw_inC : Code := ((Try.f7.body.bind (blockOf 4)).getD .skip)

set_option maxRecDepth 100000 in
set_option maxHeartbeats 8000000 in
theorem tw_in (w wz : World) (p g ln cl an ca t : Nat) (ol oa : Option Addr) (bs : List Blk) (L A R : List Int) (v12 : Value) (x : Int)
    (hln : L.length = ln) (_ : ln ≤ 30) (han : A.length = an) (ha60 : an ≤ 60) (hx : L[t]? = some x) (hst : St w wz p g bs [(.slice ol ln cl, L), (.slice oa an ca, A), (v12, R)])
    (K : Act → World → Prop) (Q : Exit → Act → World → Prop) (c0 c1 c2 c3 c4 c5 c6 c7 c8 c10 c12 c13 c17 c18 c19 c20 c21 c22 c23 c24 c25 c26 c27 c28 c29 c30 c31 c32 c33 c34 c35 c36 c37 c38 c39 c40 c41 c42 c43 c44 c45 c46 c47 c48 c49 c50 c51 c52 c53 c54 c55 c56 c57 c58 c59 c60 c61 c62 c63 c64 c65 c66 c67 c68 c69 c70 c71 c72 c73 c74 c75 c76 c77 c78 c79 c80 c81 c82 c83 c84 c85 c86 c87 c88 c89 c90 c91 c92 c93 c94 c95 c96 c97 c98 c99 c100 c101 c102 c103 c104 c105 c106 c107 c108 c109 c110 c111 c112 c113 c114 c115 c116 c117 c118 c119 c120 c121 c122 c123 c124 c125 c126 c127 c128 c129 c130 c131 c132 c133 c134 c135 c136 c137 c138 c139 c140 c141 c142 c143 c144 c145 c146 c147 c148 c149 c150 : Value)
    (hQ : ∀ (d16 d73 d74 d75 d76 d77 d78 d79 d80 d81 d82 d83 d84 d85 d86 d87 d88 d89 d90 : Value) (wc : World) , Fr no wz wc → K { tmps := #[c0, c1, c2, c3, c4, c5, c6, c7, c8, .slice ol ln cl, c10, .slice oa an ca, c12, c13, .int .i64 (t : Int), .bool (A.any (· == x)), d16, c17, c18, c19, c20, c21, c22, c23, c24, c25, c26, c27, c28, c29, c30, c31, c32, c33, c34, c35, c36, c37, c38, c39, c40, c41, c42, c43, c44, c45, c46, c47, c48, c49, c50, c51, c52, c53, c54, c55, c56, c57, c58, c59, c60, c61, c62, c63, c64, c65, c66, c67, c68, c69, c70, c71, c72, d73, d74, d75, d76, d77, d78, d79, d80, d81, d82, d83, d84, d85, d86, d87, d88, d89, d90, c91, c92, c93, c94, c95, c96, c97, c98, c99, c100, c101, c102, c103, c104, c105, c106, c107, c108, c109, c110, c111, c112, c113, c114, c115, c116, c117, c118, c119, c120, c121, c122, c123, c124, c125, c126, c127, c128, c129, c130, c131, c132, c133, c134, c135, c136, c137, c138, c139, c140, c141, c142, c143, c144, c145, c146, c147, c148, c149, c150], defers := [] } wc) :
    Code.wp Try.prog tw_inC (Exit.then K Q) { tmps := #[c0, c1, c2, c3, c4, c5, c6, c7, c8, .slice ol ln cl, c10, .slice oa an ca, c12, c13, .int .i64 (t : Int), .bool false, .int .i64 0, c17, c18, c19, c20, c21, c22, c23, c24, c25, c26, c27, c28, c29, c30, c31, c32, c33, c34, c35, c36, c37, c38, c39, c40, c41, c42, c43, c44, c45, c46, c47, c48, c49, c50, c51, c52, c53, c54, c55, c56, c57, c58, c59, c60, c61, c62, c63, c64, c65, c66, c67, c68, c69, c70, c71, c72, c73, c74, c75, c76, c77, c78, c79, c80, c81, c82, c83, c84, c85, c86, c87, c88, c89, c90, c91, c92, c93, c94, c95, c96, c97, c98, c99, c100, c101, c102, c103, c104, c105, c106, c107, c108, c109, c110, c111, c112, c113, c114, c115, c116, c117, c118, c119, c120, c121, c122, c123, c124, c125, c126, c127, c128, c129, c130, c131, c132, c133, c134, c135, c136, c137, c138, c139, c140, c141, c142, c143, c144, c145, c146, c147, c148, c149, c150], defers := [] } wz := by
  have HQ : Hid _ := hQ
  clear hQ
  have H0 : Hid _ := hst
  have HX : Hid (L[t]? = some x) := hx
  obtain ⟨b1, o1, hol, hcx⟩ := hst.at (i := 0) rfl hx _ _ _ rfl
  subst hol
  have htl : (t : Int) < (ln : Int) := by
    have := (List.getElem?_eq_some_iff.1 hx).1
    omega
  clear hst hx hcx
  conv => arg 2; whnf
  go_wp2_with fail
  go_loopw [15, 16] (fun b i wx => ∃ (k m : Nat), i = .int .i64 (k : Int) ∧ k ≤ an ∧ b = .bool ((A.take k).any (· == x)) ∧ wx = wz.drewN m) (fun _ i _ => an - (intOf i).toNat)
  case atStart => exact ⟨0, 0, rfl, Nat.zero_le _, rfl, rfl⟩
  case round =>
    obtain ⟨k, m, rfl, hk, rfl, hw⟩ := hrel
    have HW : Hid (_ = _) := hw
    by_cases h2 : k < an
    · have h2' : (k : Int) < (an : Int) := by omega
      obtain ⟨y, hy⟩ : ∃ y, A[k]? = some y := ⟨_, List.getElem?_eq_getElem (by omega)⟩
      have hnx := any_next A (· == x) k y hy
      have hs2 := H0.out.keep ((Fr.refl no _).drewN m)
      rw [← hw] at hs2
      obtain ⟨b2, o2, ho2, hcy⟩ := hs2.at (i := 1) rfl hy _ _ _ rfl
      obtain ⟨b3, o3, ho3, hcx⟩ := hs2.at (i := 0) rfl HX.out _ _ _ rfl
      obtain ⟨rfl, rfl⟩ := same_at rfl ho3
      subst ho2
      clear hs2 hw hy ho3
      cases hb : (A.take k).any (· == x) with
      | true =>
        rw [hb, Bool.true_or] at hnx
        have HN : Hid ((A.take (k + 1)).any (· == x) = true) := hnx
        clear hnx hb
        go_wp2_with fail
        go_quiet (fail)
        go_wp2_with fail
        go_roundw
        case rel => exact ⟨k + 1, m + nq, by go_num, by omega, by rw [HN.out], by rw [HW.out]; simp⟩
        case measure => simp [intOf]; omega
      | false =>
        rw [hb, Bool.false_or] at hnx
        by_cases hyx : y = x
        · have hd : (y == x) = true := by simp [hyx]
          rw [hd] at hnx
          have HN : Hid ((A.take (k + 1)).any (· == x) = true) := hnx
          clear hnx hb hyx
          go_wp2_with fail
          go_quiet (fail)
          go_wp2_with fail
          go_roundw
          case rel => exact ⟨k + 1, m + nq, by go_num, by omega, by rw [HN.out], by rw [HW.out]; simp⟩
          case measure => simp [intOf]; omega
        · have hd : (y == x) = false := by simp [hyx]
          rw [hd] at hnx
          have HN : Hid ((A.take (k + 1)).any (· == x) = false) := hnx
          clear hnx hb hyx
          go_wp2_with fail
          go_quiet (fail)
          go_wp2_with fail
          go_roundw
          case rel => exact ⟨k + 1, m + nq, by go_num, by omega, by rw [HN.out], by rw [HW.out]; simp⟩
          case measure => simp [intOf]; omega
    · obtain rfl : k = an := by omega
      have h2' : ¬ ((k : Int) < (k : Int)) := by omega
      have e : A.take k = A := List.take_of_length_le (by omega)
      rw [e]
      have HF : Hid (Fr no wz wr) := by rw [Hid, hw]; exact (Fr.refl no wz).drewN m
      clear hw
      go_wp2_with fail
      exact HQ.out _ _ _ _ _ _ _ _ _ _ _ _ _ _ _ _ _ _ _ _ HF.out
end Go.Proofs.Ytopcbcdigllenaa

/- GcTwice: which objects are roots. -/
namespace Go.Proofs.Ytopcbcdigllenaa
open Go.ChangeShapes Go.WideShapes Go.ChangeAt Go.RowKit

noncomputable def tw_realC : Code := ((Try.f7.body.bind (blockOf 2)).getD .skip)

set_option maxRecDepth 100000 in
set_option maxHeartbeats 8000000 in
theorem tw_real (w wz : World) (p g ln cl an ca : Nat) (ol oa : Option Addr) (bs : List Blk) (L A : List Int)
    (hln : L.length = ln) (hl30 : ln ≤ 30) (han : A.length = an) (ha60 : an ≤ 60) (hst : St w wz p g bs [(.slice ol ln cl, L), (.slice oa an ca, A), (.slice none 0 0, [])])
    (K : Act → World → Prop) (Q : Exit → Act → World → Prop) (c0 c1 c2 c3 c4 c5 c6 c7 c8 c10 c13 c15 c16 c17 c18 c19 c20 c21 c22 c23 c24 c25 c26 c27 c28 c29 c30 c31 c32 c33 c34 c35 c36 c37 c38 c39 c40 c41 c42 c43 c44 c45 c46 c47 c48 c49 c50 c51 c52 c53 c54 c55 c56 c57 c58 c59 c60 c61 c62 c63 c64 c65 c66 c67 c68 c69 c70 c71 c72 c73 c74 c75 c76 c77 c78 c79 c80 c81 c82 c83 c84 c85 c86 c87 c88 c89 c90 c91 c92 c93 c94 c95 c96 c97 c98 c99 c100 c101 c102 c103 c104 c105 c106 c107 c108 c109 c110 c111 c112 c113 c114 c115 c116 c117 c118 c119 c120 c121 c122 c123 c124 c125 c126 c127 c128 c129 c130 c131 c132 c133 c134 c135 c136 c137 c138 c139 c140 c141 c142 c143 c144 c145 c146 c147 c148 c149 c150 : Value)
    (hQ : ∀ (d12 d14 d15 d16 d67 d68 d69 d70 d71 d72 d73 d74 d75 d76 d77 d78 d79 d80 d81 d82 d83 d84 d85 d86 d87 d88 d89 d90 d91 d92 d93 d94 d95 d96 d97 d98 : Value) (wc : World) , St w wc p g bs [(.slice ol ln cl, L), (.slice oa an ca, A), (d12, L.filter (fun a => A.any (· == a)))] → K { tmps := #[c0, c1, c2, c3, c4, c5, c6, c7, c8, .slice ol ln cl, c10, .slice oa an ca, d12, c13, d14, d15, d16, c17, c18, c19, c20, c21, c22, c23, c24, c25, c26, c27, c28, c29, c30, c31, c32, c33, c34, c35, c36, c37, c38, c39, c40, c41, c42, c43, c44, c45, c46, c47, c48, c49, c50, c51, c52, c53, c54, c55, c56, c57, c58, c59, c60, c61, c62, c63, c64, c65, c66, d67, d68, d69, d70, d71, d72, d73, d74, d75, d76, d77, d78, d79, d80, d81, d82, d83, d84, d85, d86, d87, d88, d89, d90, d91, d92, d93, d94, d95, d96, d97, d98, c99, c100, c101, c102, c103, c104, c105, c106, c107, c108, c109, c110, c111, c112, c113, c114, c115, c116, c117, c118, c119, c120, c121, c122, c123, c124, c125, c126, c127, c128, c129, c130, c131, c132, c133, c134, c135, c136, c137, c138, c139, c140, c141, c142, c143, c144, c145, c146, c147, c148, c149, c150], defers := [] } wc) :
    Code.wp Try.prog tw_realC (Exit.then K Q) { tmps := #[c0, c1, c2, c3, c4, c5, c6, c7, c8, .slice ol ln cl, c10, .slice oa an ca, .slice none 0 0, c13, .int .i64 0, c15, c16, c17, c18, c19, c20, c21, c22, c23, c24, c25, c26, c27, c28, c29, c30, c31, c32, c33, c34, c35, c36, c37, c38, c39, c40, c41, c42, c43, c44, c45, c46, c47, c48, c49, c50, c51, c52, c53, c54, c55, c56, c57, c58, c59, c60, c61, c62, c63, c64, c65, c66, c67, c68, c69, c70, c71, c72, c73, c74, c75, c76, c77, c78, c79, c80, c81, c82, c83, c84, c85, c86, c87, c88, c89, c90, c91, c92, c93, c94, c95, c96, c97, c98, c99, c100, c101, c102, c103, c104, c105, c106, c107, c108, c109, c110, c111, c112, c113, c114, c115, c116, c117, c118, c119, c120, c121, c122, c123, c124, c125, c126, c127, c128, c129, c130, c131, c132, c133, c134, c135, c136, c137, c138, c139, c140, c141, c142, c143, c144, c145, c146, c147, c148, c149, c150], defers := [] } wz := by
  have HQ : Hid _ := hQ
  clear hQ
  have H0 : Hid _ := hst
  clear hst
  conv => arg 2; whnf
  go_wp2_with fail
  go_loopw [12, 14] (fun lv i wx => ∃ (t : Nat), i = .int .i64 (t : Int) ∧ t ≤ ln ∧ St w wx p g bs [(.slice ol ln cl, L), (.slice oa an ca, A), (lv, (L.take t).filter (fun a => A.any (· == a)))]) (fun _ i _ => ln - (intOf i).toNat)
  case atStart => exact ⟨0, rfl, Nat.zero_le _, H0.out⟩
  case round =>
    clear H0
    obtain ⟨t, rfl, htn, hst⟩ := hrel
    by_cases h2 : t < ln
    · have h2' : (t : Int) < (ln : Int) := by omega
      obtain ⟨x, hx⟩ : ∃ x, L[t]? = some x := ⟨_, List.getElem?_eq_getElem (by omega)⟩
      have HST : Hid (St w wr p g bs [(.slice ol ln cl, L), (.slice oa an ca, A), (u12, (L.take t).filter (fun a => A.any (· == a)))]) := hst
      have HX : Hid (L[t]? = some x) := hx
      have hfl : ((L.take t).filter (fun a => A.any (· == a))).length ≤ 30 := by
        have h1 := List.length_filter_le (fun a : Int => A.any (· == a)) (L.take t)
        rw [List.length_take] at h1
        omega
      have hnx : (L.take (t + 1)).filter (fun a => A.any (· == a)) = (L.take t).filter (fun a => A.any (· == a)) ++ (if A.any (· == x) = true then [x] else []) := by
        rw [take_next L t x hx, List.filter_append]
        congr 1
        simp only [List.filter_cons, List.filter_nil]
      have HNX : Hid _ := hnx
      clear hst hx hnx
      go_upto_block 4 with fail
      rename_i K0 h0
      refine Code.wp_mono (Q := Exit.then K0 (fun _ _ _ => False)) (fun e a w h => by cases e <;> first | exact h | exact False.elim h) ?_
      refine tw_in w wr p g ln cl an ca t ol oa bs L A _ u12 x hln hl30 han ha60 HX.out HST.out _ _ _ _ _ _ _ _ _ _ _ _ _ _ _ _ _ _ _ _ _ _ _ _ _ _ _ _ _ _ _ _ _ _ _ _ _ _ _ _ _ _ _ _ _ _ _ _ _ _ _ _ _ _ _ _ _ _ _ _ _ _ _ _ _ _ _ _ _ _ _ _ _ _ _ _ _ _ _ _ _ _ _ _ _ _ _ _ _ _ _ _ _ _ _ _ _ _ _ _ _ _ _ _ _ _ _ _ _ _ _ _ _ _ _ _ _ _ _ _ _ _ _ _ _ _ _ _ _ _ _ _ _ _ _ _ _ _ _ _ _ _ _ _ _ _ _ _ ?_
      intro d16 d73 d74 d75 d76 d77 d78 d79 d80 d81 d82 d83 d84 d85 d86 d87 d88 d89 d90 wc fc
      have HC : Hid (Fr no wr wc) := fc
      clear fc
      refine h0 _ _ ?_
      obtain ⟨b1, o1, hol, hcx⟩ := (HST.out.keep HC.out).at (i := 0) rfl HX.out _ _ _ rfl
      subst hol
      cases hb : A.any (· == x) with
      | false =>
        have HN : Hid ((L.take (t + 1)).filter (fun a => A.any (· == a)) = (L.take t).filter (fun a => A.any (· == a))) := by
          rw [Hid, HNX.out, hb]
          simp
        clear hb
        go_wp2_with fail
        go_roundw
        case rel => exact ⟨t + 1, by go_num, by omega, by rw [HN.out]; exact HST.out.keep HC.out⟩
        case measure => simp [intOf]; omega
      | true =>
        have HN : Hid ((L.take (t + 1)).filter (fun a => A.any (· == a)) = (L.take t).filter (fun a => A.any (· == a)) ++ [x]) := by
          rw [Hid, HNX.out, hb]
          simp
        have HM5 : Hid (St w (wc.alloc (.cells (elI.f x).toArray elI.e)) p g bs [(.slice (some ⟨b1, o1, none⟩) ln cl, L), (.slice oa an ca, A), (u12, (L.take t).filter (fun a => A.any (· == a)))]) := (HST.out.keep HC.out).keep ((Fr.refl no wc).alloc _ _)
        have HO5 : Hid (OwnG elI (wc.alloc (.cells (elI.f x).toArray elI.e)) u12 ((L.take t).filter (fun a => A.any (· == a)))) := HM5.out.own 2 _ rfl
        clear hb
        generalize (L.take t).filter (fun a => A.any (· == a)) = Z at *
        go_wp2_with (at_builtin; refine wpList_apdG elI_ok _ rfl rfl _ _ rfl u12 Z rfl HO5.out _ rfl [x] (srcG_one elI_ok wc x) (by simp; omega) ?_; intro v' w6 o6 s6; have H6 : Hid (St w w6 p g bs [(.slice (some ⟨b1, o1, none⟩) ln cl, L), (.slice oa an ca, A), (v', Z ++ [x])]) := HM5.out.push (i := 2) rfl o6 s6; clear o6 s6)
        go_roundw
        case rel => exact ⟨t + 1, by go_num, by omega, by rw [HN.out]; exact H6.out⟩
        case measure => simp [intOf]; omega
    · obtain rfl : t = ln := by omega
      have e : L.take t = L := List.take_of_length_le (by omega)
      rw [e] at hst
      have HX : Hid _ := hst
      clear hst
      go_wp2_with fail
      exact HQ.out _ _ _ _ _ _ _ _ _ _ _ _ _ _ _ _ _ _ _ _ _ _ _ _ _ _ _ _ _ _ _ _ _ _ _ _ _ HX.out
end Go.Proofs.Ytopcbcdigllenaa

/- GcTwice: what is no object is put among the roots. -/
namespace Go.Proofs.Ytopcbcdigllenaa
open Go.ChangeShapes Go.WideShapes Go.ChangeAt Go.RowKit

noncomputable def tw_junkC : Code := ((Try.f7.body.bind (blockOf 6)).getD .skip)

set_option maxRecDepth 100000 in
set_option maxHeartbeats 8000000 in
theorem tw_junk (w wz : World) (p g ln cl an ca jn cj : Nat) (ol oa oj : Option Addr) (bs : List Blk) (L A R junk : List Int) (v12 : Value)
    (hln : L.length = ln) (hl30 : ln ≤ 30) (han : A.length = an) (ha60 : an ≤ 60) (hjn : junk.length = jn) (hj20 : jn ≤ 20) (hst : St w wz p g bs [(.slice ol ln cl, L), (.slice oa an ca, A), (v12, R)]) (hj : RdG elI w (.slice oj jn cj) junk)
    (K : Act → World → Prop) (Q : Exit → Act → World → Prop) (c0 c1 c3 c4 c5 c6 c7 c8 c10 c12 c13 c14 c15 c16 c18 c19 c20 c21 c22 c23 c24 c25 c26 c27 c28 c29 c30 c31 c32 c33 c34 c35 c36 c37 c38 c39 c40 c41 c42 c43 c44 c45 c46 c47 c48 c49 c50 c51 c52 c53 c54 c55 c56 c57 c58 c59 c60 c61 c62 c63 c64 c65 c66 c67 c68 c69 c70 c71 c72 c73 c74 c75 c76 c77 c78 c79 c80 c81 c82 c83 c84 c85 c86 c87 c88 c89 c90 c91 c92 c93 c94 c95 c96 c97 c98 c99 c100 c101 c102 c103 c104 c105 c106 c107 c108 c109 c110 c111 c112 c113 c114 c115 c116 c117 c118 c119 c120 c121 c122 c123 c124 c125 c126 c127 c128 c129 c130 c131 c132 c133 c134 c135 c136 c137 c138 c139 c140 c141 c142 c143 c144 c145 c146 c147 c148 c149 c150 : Value)
    (hQ : ∀ (d11 d17 d99 d100 d101 d102 d103 d104 d105 d106 d107 d108 d109 d110 d111 d112 d113 d114 d115 d116 d117 d118 : Value) (wc : World) (A2 : List Int), St w wc p g bs [(.slice ol ln cl, L), (d11, A2), (v12, R)] → A2.length ≤ 100 → (∀ a ∈ L, A2.any (· == a) = A.any (· == a)) → K { tmps := #[c0, c1, .slice oj jn cj, c3, c4, c5, c6, c7, c8, .slice ol ln cl, c10, d11, c12, c13, c14, c15, c16, d17, c18, c19, c20, c21, c22, c23, c24, c25, c26, c27, c28, c29, c30, c31, c32, c33, c34, c35, c36, c37, c38, c39, c40, c41, c42, c43, c44, c45, c46, c47, c48, c49, c50, c51, c52, c53, c54, c55, c56, c57, c58, c59, c60, c61, c62, c63, c64, c65, c66, c67, c68, c69, c70, c71, c72, c73, c74, c75, c76, c77, c78, c79, c80, c81, c82, c83, c84, c85, c86, c87, c88, c89, c90, c91, c92, c93, c94, c95, c96, c97, c98, d99, d100, d101, d102, d103, d104, d105, d106, d107, d108, d109, d110, d111, d112, d113, d114, d115, d116, d117, d118, c119, c120, c121, c122, c123, c124, c125, c126, c127, c128, c129, c130, c131, c132, c133, c134, c135, c136, c137, c138, c139, c140, c141, c142, c143, c144, c145, c146, c147, c148, c149, c150], defers := [] } wc) :
    Code.wp Try.prog tw_junkC (Exit.then K Q) { tmps := #[c0, c1, .slice oj jn cj, c3, c4, c5, c6, c7, c8, .slice ol ln cl, c10, .slice oa an ca, c12, c13, c14, c15, c16, .int .i64 0, c18, c19, c20, c21, c22, c23, c24, c25, c26, c27, c28, c29, c30, c31, c32, c33, c34, c35, c36, c37, c38, c39, c40, c41, c42, c43, c44, c45, c46, c47, c48, c49, c50, c51, c52, c53, c54, c55, c56, c57, c58, c59, c60, c61, c62, c63, c64, c65, c66, c67, c68, c69, c70, c71, c72, c73, c74, c75, c76, c77, c78, c79, c80, c81, c82, c83, c84, c85, c86, c87, c88, c89, c90, c91, c92, c93, c94, c95, c96, c97, c98, c99, c100, c101, c102, c103, c104, c105, c106, c107, c108, c109, c110, c111, c112, c113, c114, c115, c116, c117, c118, c119, c120, c121, c122, c123, c124, c125, c126, c127, c128, c129, c130, c131, c132, c133, c134, c135, c136, c137, c138, c139, c140, c141, c142, c143, c144, c145, c146, c147, c148, c149, c150], defers := [] } wz := by
  have HQ : Hid _ := hQ
  clear hQ
  have H0 : Hid _ := hst
  have HJ : Hid (RdG elI w (.slice oj jn cj) junk) := hj
  clear hst hj
  conv => arg 2; whnf
  go_wp2_with fail
  go_loopw [11, 17] (fun lv i wx => ∃ (t : Nat) (A2 : List Int), i = .int .i64 (t : Int) ∧ t ≤ jn ∧ St w wx p g bs [(.slice ol ln cl, L), (lv, A2), (v12, R)] ∧ A2.length ≤ an + t ∧ ∀ a ∈ L, A2.any (· == a) = A.any (· == a)) (fun _ i _ => jn - (intOf i).toNat)
  case atStart => exact ⟨0, A, rfl, Nat.zero_le _, H0.out, by omega, fun _ _ => rfl⟩
  case round =>
    clear H0
    obtain ⟨t, A2, rfl, htn, hst, hal, hin⟩ := hrel
    by_cases h2 : t < jn
    · have h2' : (t : Int) < (jn : Int) := by omega
      obtain ⟨x, hx⟩ : ∃ x, junk[t]? = some x := ⟨_, List.getElem?_eq_getElem (by omega)⟩
      obtain ⟨b0, o0, hov, hcx⟩ := (HJ.out.keep hst.fr).at1 (u := .int .i64 x) rfl rfl hx
      subst hov
      have IS := isObj_any wr ol ln cl L x (hst.own 0 _ rfl) hln (by omega)
      have HM5 : Hid (St w (wr.alloc (.cells (elI.f x).toArray elI.e)) p g bs [(.slice ol ln cl, L), (u11, A2), (v12, R)]) := hst.keep ((Fr.refl no wr).alloc _ _)
      have HO5 : Hid (OwnG elI (wr.alloc (.cells (elI.f x).toArray elI.e)) u11 A2) := HM5.out.own 1 _ rfl
      have HST : Hid (St w wr p g bs [(.slice ol ln cl, L), (u11, A2), (v12, R)]) := hst
      have HIN : Hid (∀ a ∈ L, A2.any (· == a) = A.any (· == a)) := hin
      clear hst hx hin
      cases hb : L.any (· == x) with
      | true =>
        rw [hb] at IS
        clear hb
        go_wp2_with fail
        refine IS.mono ?_
        rintro e w5 ⟨rfl, rfl⟩
        clear IS
        go_wp2_with fail
        go_roundw
        case rel => exact ⟨t + 1, A2, by go_num, by omega, HST.out, by omega, HIN.out⟩
        case measure => simp [intOf]; omega
      | false =>
        rw [hb] at IS
        have HNO : Hid (∀ a ∈ L, (A2 ++ [x]).any (· == a) = A.any (· == a)) := fun a ha => by
          rw [List.any_append, HIN.out a ha]
          have : (x == a) = false := by
            rw [List.any_eq_false] at hb
            have := hb a ha
            simp only [beq_iff_eq] at this
            simp only [beq_eq_false_iff_ne, ne_eq]
            exact fun e => this e.symm
          simp [this]
        clear hb
        go_wp2_with fail
        refine IS.mono ?_
        rintro e w5 ⟨rfl, rfl⟩
        clear IS
        go_wp2_with (at_builtin; refine wpList_apdG elI_ok _ rfl rfl _ _ rfl u11 A2 rfl HO5.out _ rfl [x] (srcG_one elI_ok w5 x) (by simp; omega) ?_; intro v' w6 o6 s6; have H6 : Hid (St w w6 p g bs [(.slice ol ln cl, L), (v', A2 ++ [x]), (v12, R)]) := HM5.out.push (i := 1) rfl o6 s6; clear o6 s6)
        go_roundw
        case rel => exact ⟨t + 1, A2 ++ [x], by go_num, by omega, H6.out, by simp; omega, HNO.out⟩
        case measure => simp [intOf]; omega
    · obtain rfl : t = jn := by omega
      have HX : Hid _ := hst
      clear hst
      go_wp2_with fail
      exact HQ.out _ _ _ _ _ _ _ _ _ _ _ _ _ _ _ _ _ _ _ _ _ _ _ A2 HX.out (by omega) hin
end Go.Proofs.Ytopcbcdigllenaa

/- The statement that what is collected twice is collected once: it returns true. -/
namespace Go.Proofs.Ytopcbcdigllenaa
open Go.ChangeShapes Go.WideShapes Go.ChangeAt Go.RowKit

def kin (A : List Int) (a : Int) : Bool := A.any (· == a)

theorem St.collect {w wr : World} {p g : Nat} {bs : List Blk} {rs : List (Value × List Int)} (h : St w wr p g bs rs) {i : Nat} {v : Value} {A : List Int} (hi : rs[i]? = some (v, A)) (hA : A.length ≤ 1000) :
    Calls Try.prog 28 #[.pointer (some ⟨p, 0, none⟩), v, .func (.func 34) #[] #[]] wr fun e w' => ∃ bs', e = .returned (.int .i64 (((objsA 0 bs).length - ((objsA 0 bs).filter (kin A)).length : Nat) : Int)) ∧ St w w' p g bs' rs ∧ objsA 0 bs' = (objsA 0 bs).filter (kin A) := by
  have hl : (objsA 0 bs).length ≤ 2048 := by
    rw [objsA_eq, List.length_map]
    have h1 := (freesA_len 0 bs).2
    have h2 := h.hp.len
    have e : siz bs = (flat bs).length := rfl
    omega
  have C := collect_any wr p g bs h.hp v A (h.own i _ hi) (by omega) 34 #[] (fun _ => []) J0 1000000 nRefs [] (fun _ => False) (fun _ f => f) (by simp; omega) (fun f => f) (fun f => f)
  refine C.mono ?_
  rintro e w' ⟨js, B, M, rfl, h', -, f', -, hr, -⟩
  have hs : seenL M (objsA 0 bs) = (objsA 0 bs).filter (kin A) := seen_of hr
  exact ⟨_, by rw [hs], h.turn h' (f'.mono (fun k _ e => by rcases e with e | e; exact e; exact e.elim)), by rw [relP_objs, hs]⟩

theorem St.mark {w wr : World} {p g : Nat} {bs : List Blk} {rs : List (Value × List Int)} (h : St w wr p g bs rs) {i : Nat} {v : Value} {A : List Int} (hi : rs[i]? = some (v, A)) (hA : A.length ≤ 1000) :
    Calls Try.prog 26 #[.pointer (some ⟨p, 0, none⟩), v, .func (.func 34) #[] #[]] wr fun e w' => ∃ v', e = .returned v' ∧ OwnG elI w' v' ((objsA 0 bs).filter (kin A)) ∧ St w w' p g bs rs := by
  have hl : (objsA 0 bs).length ≤ 2048 := by
    rw [objsA_eq, List.length_map]
    have h1 := (freesA_len 0 bs).2
    have h2 := h.hp.len
    have e : siz bs = (flat bs).length := rfl
    omega
  have C := mark_any wr p g bs h.hp v A (h.own i _ hi) (by omega) 34 #[] (fun _ => []) J0 1000000 nRefs [] (fun _ => False) (fun _ f => f) (by simp; omega)
  refine C.mono ?_
  rintro e w' ⟨v', js, B, M, rfl, o', -, -, f', -, hr, -⟩
  have hs : seenL M (objsA 0 bs) = (objsA 0 bs).filter (kin A) := seen_of hr
  rw [hs] at o'
  exact ⟨v', rfl, o', h.keep f'⟩

theorem filter_twice (O : List Int) (f : Int → Bool) : (O.filter f).filter f = O.filter f := by
  rw [List.filter_filter]
  simp

set_option maxHeartbeats 16000000 in
set_option maxRecDepth 100000 in
theorem twice_any (w : World) (vs : Value) (sizes : List Nat) (vr : Value) (roots : List Nat) (vj : Value) (junk : List Int) (hs : RdG elY w vs sizes) (hsb : ∀ x ∈ sizes, x < 256) (hr : RdG elY w vr roots) (hrb : ∀ x ∈ roots, x < 256) (hj : RdG elI w vj junk) (_ : ∀ x ∈ junk, -9223372036854775808 ≤ x ∧ x ≤ 9223372036854775807) :
    Calls Try.prog 7 #[vs, vr, vj] w fun e w' => e = .returned (.bool true) ∧ Fr no w w' := by
  have KN := known12_any w
  have HMA : Hid (∀ w1, Fr no w w1 → sizes.length ≤ 30 → Calls Try.prog 22 #[vs, .slice none 0 0] w1 fun e w' => ∃ p g q v bs, e = .returned (.tuple #[.pointer (some ⟨p, 0, none⟩), .pointer (some ⟨q, 0, none⟩), v]) ∧ St w w' p g bs [(v, objsA 0 bs), (.slice none 0 0, []), (.slice none 0 0, [])] ∧ (objsA 0 bs).length = sizes.length) := fun w1 f1 h1 => by
    refine (made_any w1 vs (.slice none 0 0) sizes [] (hs.keep f1) ⟨none, 0, rfl, Nat.zero_le _, Nat.zero_le _, fun i x hx => by simp at hx⟩ h1 (by simp) hsb (fun x hx => by simp at hx)).mono ?_
    rintro e w' ⟨p, g, q, v, l, bs, T, rfl, md, hl, he⟩
    have he' := he rfl
    subst he'
    have s1 := f1.size
    refine ⟨p, g, q, v, bs, rfl, ⟨md.pl.hf.hp, fun i r hr => ?_, fun i r hr => ?_, fun i j r s hne h1 h2 k hk => ?_, f1.and md.pl.hf.fr, by have := md.pl.hf.gb; omega⟩, hl⟩
    · match i, hr with
      | 0, hr => simp at hr; subst hr; exact md.own
      | 1, hr => simp at hr; subst hr; exact OwnG.nil _ _
      | 2, hr => simp at hr; subst hr; exact OwnG.nil _ _
    · match i, hr with
      | 0, hr => simp at hr; subst hr; exact fun k hk => by have := md.new k hk; omega
      | 1, hr => simp at hr; subst hr; exact NewV.nil _
      | 2, hr => simp at hr; subst hr; exact NewV.nil _
    · match i, j, h1, h2, hne with
      | 0, 0, _, _, hne => exact absurd rfl hne
      | 0, 1, _, h2, _ => simp at h2; subst h2; intro e; simp [Value.ownBlock] at e
      | 0, 2, _, h2, _ => simp at h2; subst h2; intro e; simp [Value.ownBlock] at e
      | 1, _, h1, _, _ => simp at h1; subst h1; simp [Value.ownBlock] at hk
      | 2, _, h1, _, _ => simp at h1; subst h1; simp [Value.ownBlock] at hk
  have HR : Hid (RdG elY w vr roots ∧ ∀ x ∈ roots, x < 256) := ⟨hr, hrb⟩
  have HJ : Hid (RdG elI w vj junk) := hj
  obtain ⟨os, csn, e1⟩ := hs.form
  obtain ⟨orr, cr, e2⟩ := hr.form
  obtain ⟨oj, cj, e3⟩ := hj.form
  subst e1 e2 e3
  clear hs hr hj hsb hrb
  generalize sizes.length = sn at *
  generalize hrn : roots.length = rn at *
  generalize hjn : junk.length = jn at *
  have OUT : (30 < sn ∨ 20 < rn ∨ 20 < jn) → Calls Try.prog 7 #[.slice os sn csn, .slice orr rn cr, .slice oj jn cj] w fun e w' => e = .returned (.bool true) ∧ Fr no w w' := fun hb => by
    clear HMA HR HJ
    by_cases c1 : 30 < sn
    · have d1 : (30 : Int) < (sn : Int) := by omega
      go_enter Try.func7, Try.ntmps7
      go_wp2_with fail
      refine KN.mono ?_
      rintro e w1 ⟨rfl, f1⟩
      have F1 : Hid (Fr no w w1) := f1
      clear f1 hb
      go_wp2_with fail
      go_ret
      exact ⟨rfl, F1.out⟩
    · have d1 : ¬ (30 : Int) < (sn : Int) := by omega
      by_cases c2 : 20 < rn
      · have d2 : (20 : Int) < (rn : Int) := by omega
        go_enter Try.func7, Try.ntmps7
        go_wp2_with fail
        refine KN.mono ?_
        rintro e w1 ⟨rfl, f1⟩
        have F1 : Hid (Fr no w w1) := f1
        clear f1 hb
        go_wp2_with fail
        go_ret
        exact ⟨rfl, F1.out⟩
      · have d2 : ¬ (20 : Int) < (rn : Int) := by omega
        have d3 : (20 : Int) < (jn : Int) := by omega
        go_enter Try.func7, Try.ntmps7
        go_wp2_with fail
        refine KN.mono ?_
        rintro e w1 ⟨rfl, f1⟩
        have F1 : Hid (Fr no w w1) := f1
        clear f1 hb
        go_wp2_with fail
        go_ret
        exact ⟨rfl, F1.out⟩
  by_cases hb : 30 < sn ∨ 20 < rn ∨ 20 < jn
  · exact OUT hb
  · clear OUT
    have d1 : ¬ (30 : Int) < (sn : Int) := by omega
    have d2 : ¬ (20 : Int) < (rn : Int) := by omega
    have d3 : ¬ (20 : Int) < (jn : Int) := by omega
    go_enter Try.func7, Try.ntmps7
    go_wp2_with fail
    refine KN.mono ?_
    rintro e w1 ⟨rfl, f1⟩
    have MA := HMA.out w1 f1 (by omega)
    clear f1 HMA KN
    go_wp2_with fail
    refine MA.mono ?_
    rintro e w2 ⟨p, g, q, v9, bs, rfl, h2, hl⟩
    obtain ⟨ol, cl, hv9⟩ := (h2.own 0 _ rfl).form
    simp only at hv9
    rw [hl] at hv9
    subst hv9
    have H2 : Hid (St w w2 p g bs [(.slice ol sn cl, objsA 0 bs), (.slice none 0 0, []), (.slice none 0 0, [])]) := h2
    clear h2 MA
    generalize hL : objsA 0 bs = L at *
    go_upto_block 0 with fail
    rename_i K0 h0
    refine Code.wp_mono (Q := Exit.then K0 (fun _ _ _ => False)) (fun e a w h => by cases e <;> first | exact h | exact False.elim h) ?_
    refine tw_at w w2 p g sn cl rn cr ol orr bs L roots hl (by omega) hrn (by omega) H2.out HR.out.1 HR.out.2 _ _ _ _ _ _ _ _ _ _ _ _ _ _ _ _ _ _ _ _ _ _ _ _ _ _ _ _ _ _ _ _ _ _ _ _ _ _ _ _ _ _ _ _ _ _ _ _ _ _ _ _ _ _ _ _ _ _ _ _ _ _ _ _ _ _ _ _ _ _ _ _ _ _ _ _ _ _ _ _ _ _ _ _ _ _ _ _ _ _ _ _ _ _ _ _ _ _ _ _ _ _ _ _ _ _ _ _ _ _ _ _ _ _ _ _ _ _ _ _ _ _ _ _ _ _ _ _ _ _ _ _ _ _ _ _ _ _ _ _ _ _ _ _ _ _ _ _ _ ?_
    intro d11 d13 d42 d43 d44 d45 d46 d47 d48 d49 d50 d51 d52 d53 d54 d55 d56 d57 d58 d59 d60 d61 d62 d63 d64 d65 d66 w3 A k1 k2 k3
    obtain ⟨oa, ca, hd11⟩ := (k1.own 1 _ rfl).form
    simp only at hd11
    subst hd11
    have H3 : Hid (St w w3 p g bs [(.slice ol sn cl, L), (.slice oa A.length ca, A), (.slice none 0 0, [])]) := k1
    clear k1 k3 H2
    generalize han : A.length = an at *
    refine h0 _ _ ?_
    clear h0 K0
    go_upto_block 2 with fail
    rename_i K0 h0
    refine Code.wp_mono (Q := Exit.then K0 (fun _ _ _ => False)) (fun e a w h => by cases e <;> first | exact h | exact False.elim h) ?_
    refine tw_real w w3 p g sn cl an ca ol oa bs L A hl (by omega) han (by omega) H3.out _ _ _ _ _ _ _ _ _ _ _ _ _ _ _ _ _ _ _ _ _ _ _ _ _ _ _ _ _ _ _ _ _ _ _ _ _ _ _ _ _ _ _ _ _ _ _ _ _ _ _ _ _ _ _ _ _ _ _ _ _ _ _ _ _ _ _ _ _ _ _ _ _ _ _ _ _ _ _ _ _ _ _ _ _ _ _ _ _ _ _ _ _ _ _ _ _ _ _ _ _ _ _ _ _ _ _ _ _ _ _ _ _ _ _ _ _ _ _ _ _ _ _ _ _ _ _ _ _ _ _ _ _ _ _ _ _ _ _ _ _ _ _ _ _ _ _ _ _ ?_
    intro e12 e14 e15 e16 e67 e68 e69 e70 e71 e72 e73 e74 e75 e76 e77 e78 e79 e80 e81 e82 e83 e84 e85 e86 e87 e88 e89 e90 e91 e92 e93 e94 e95 e96 e97 e98 w4 k1
    have H4 : Hid (St w w4 p g bs [(.slice ol sn cl, L), (.slice oa an ca, A), (e12, L.filter (kin A))]) := k1
    clear k1 H3
    refine h0 _ _ ?_
    clear h0 K0
    go_upto_block 6 with fail
    rename_i K0 h0
    refine Code.wp_mono (Q := Exit.then K0 (fun _ _ _ => False)) (fun e a w h => by cases e <;> first | exact h | exact False.elim h) ?_
    refine tw_junk w w4 p g sn cl an ca jn cj ol oa oj bs L A (L.filter (kin A)) junk e12 hl (by omega) han (by omega) hjn (by omega) H4.out HJ.out _ _ _ _ _ _ _ _ _ _ _ _ _ _ _ _ _ _ _ _ _ _ _ _ _ _ _ _ _ _ _ _ _ _ _ _ _ _ _ _ _ _ _ _ _ _ _ _ _ _ _ _ _ _ _ _ _ _ _ _ _ _ _ _ _ _ _ _ _ _ _ _ _ _ _ _ _ _ _ _ _ _ _ _ _ _ _ _ _ _ _ _ _ _ _ _ _ _ _ _ _ _ _ _ _ _ _ _ _ _ _ _ _ _ _ _ _ _ _ _ _ _ _ _ _ _ _ _ _ _ _ _ _ _ _ _ _ _ _ _ _ _ _ _ _ _ _ _ _ ?_
    intro f11 f17 f99 f100 f101 f102 f103 f104 f105 f106 f107 f108 f109 f110 f111 f112 f113 f114 f115 f116 f117 f118 w5 A2 k1 k2 k3
    have hF : L.filter (kin A2) = L.filter (kin A) := List.filter_congr (fun a ha => k3 a ha)
    have CO := k1.collect (i := 1) rfl (by omega)
    rw [hL, hF, hl] at CO
    have H5 : Hid (A2.length ≤ 100 ∧ L.filter (kin A2) = L.filter (kin A)) := ⟨k2, hF⟩
    have hFl : (L.filter (kin A)).length ≤ sn := by
      have := List.length_filter_le (kin A) L
      omega
    obtain ⟨o12, c12, he12⟩ := (k1.own 2 _ rfl).form
    simp only at he12
    subst he12
    clear k1 k2 k3 H4 hF
    refine h0 _ _ ?_
    clear h0 K0
    generalize hR : L.filter (kin A) = R at *
    generalize hRl : R.length = rl at *
    have esub : (sn : Int) - (rl : Int) = ((sn - rl : Nat) : Int) := by omega
    go_wp2_with fail
    refine CO.mono ?_
    rintro e w6 ⟨bs6, rfl, h6, o6⟩
    have hF2 : R.filter (kin A2) = R := by
      have := filter_twice L (kin A2)
      rw [H5.out.2] at this
      exact this
    have C2 := h6.collect (i := 1) rfl (by have := H5.out.1; omega)
    rw [o6, hF2] at C2
    simp only [Nat.sub_self, Int.natCast_zero] at C2
    have H6 : Hid (R.filter (kin A2) = R) := hF2
    clear h6 o6 CO hF2
    go_wp2_with fail
    refine C2.mono ?_
    rintro e w7 ⟨bs7, rfl, h7, o7⟩
    have AA := all_any w7 p g bs7 h7.hp
    rw [o7] at AA
    have H7 : Hid (St w w7 p g bs7 [(.slice ol sn cl, L), (f11, A2), (.slice o12 rl c12, R)] ∧ objsA 0 bs7 = R) := ⟨h7, o7⟩
    clear h7 o7 C2
    go_wp2_with fail
    refine AA.mono ?_
    rintro e w8 ⟨v8, rfl, o8, -, f8⟩
    have I8 := ints_any w8 v8 (.slice o12 rl c12) R R (o8.rd elI_ok) (((H7.out.1.keep f8).own 2 _ rfl).rd elI_ok)
    have hsm : sameI R R = true := decide_eq_true rfl
    rw [hsm] at I8
    have H8 : Hid (St w w8 p g bs7 [(.slice ol sn cl, L), (f11, A2), (.slice o12 rl c12, R)]) := H7.out.1.keep f8
    clear o8 f8 AA
    go_wp2_with fail
    refine I8.mono ?_
    rintro e w9 ⟨rfl, m9, hw9⟩
    have s9 : St w w9 p g bs7 [(.slice ol sn cl, L), (f11, A2), (.slice o12 rl c12, R)] := by rw [hw9]; exact H8.out.keep ((Fr.refl no w8).drewN m9)
    have MK := s9.mark (i := 1) rfl (by have := H5.out.1; omega)
    rw [H7.out.2, H6.out] at MK
    clear s9 hw9 I8
    go_wp2_with fail
    refine MK.mono ?_
    rintro e w10 ⟨v10, rfl, o10, s10⟩
    have I10 := ints_any w10 v10 (.slice o12 rl c12) R R (o10.rd elI_ok) ((s10.own 2 _ rfl).rd elI_ok)
    rw [hsm] at I10
    have H10 : Hid (Fr no w w10) := s10.fr
    clear o10 s10 MK
    go_wp2_with fail
    refine I10.mono ?_
    rintro e w11 ⟨rfl, m11, hw11⟩
    have H11 : Hid (Fr no w w11) := by rw [Hid, hw11]; exact H10.out.drewN m11
    clear hw11 I10
    go_wp2_with fail
    go_ret
    exact ⟨rfl, H11.out⟩
end Go.Proofs.Ytopcbcdigllenaa

