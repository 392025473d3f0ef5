/- The statement on all words: the free blocks are added up. -/
import Derived.Test.YtmoejipmiicgpaaW0
namespace Go.Proofs.Ytmoejipmiicgpaa
open Go.ChangeShapes Go.WideShapes Go.ChangeAt Go.RowKit

set_option maxRecDepth 100000 in
set_option maxHeartbeats 8000000 in
theorem whole_loop4 (wb : World) (n1 fl cb : Nat) (ab : Option Addr) (bs : List Blk) (h300 : n1 < 300) (hwh : tight false bs = true) (hsz : siz bs = n1) (hfl : (freesA 0 bs).length = fl) (hfl2 : fl ≤ 300) (hrb : RdG elB wb (.slice ab fl cb) (freesA 0 bs))
    (K : Act → World → Prop) (Q : Exit → Act → World → Prop) (c0 c1 c2 c3 c4 c6 c7 c8 c9 c10 c11 c12 c13 c14 c16 c18 c19 c20 c22 c23 c24 c25 c26 c27 c28 c29 c30 c31 c32 c33 c34 c35 c36 c37 c38 c39 c40 c41 c42 c43 c44 c45 c46 c47 c48 c49 c50 c51 c52 c53 c54 c55 c56 c57 c58 c59 c60 c61 c62 c63 c64 c65 c66 c67 c68 c69 c70 c71 c72 c73 c74 c75 c76 c77 c78 c79 c80 c81 c82 c83 c84 c85 c86 c87 c88 c89 c90 c91 c92 c93 c94 c95 c96 c97 c98 c99 c100 c101 c102 c103 c104 c105 c106 c107 c108 c109 c110 c111 c112 c113 c114 c115 c116 c117 c118 c119 c120 c121 c122 c123 c124 c125 c126 c127 c128 c129 c130 c131 c132 c133 c134 c135 c136 c137 c138 c139 c140 c141 c142 c143 c144 c145 c146 c147 c148 c149 c150 c151 c152 c153 c154 c155 c156 c157 c158 c159 c160 c161 c162 c163 c164 c165 c166 c167 c168 c169 c170 c171 c172 c173 c174 c175 c176 c177 c178 c179 c180 c181 c182 c183 c184 c185 c186 c187 c188 c189 c190 c191 c192 c193 c194 c195 c196 c197 c198 c199 c200 c201 c202 c203 c204 c205 c206 c207 c208 c209 c210 c211 c212 c213 c214 c215 c216 c217 c218 c219 c220 c221 c222 c223 c224 c225 c226 c227 c228 c229 c230 c231 c232 c233 c234 c235 c236 c237 c238 c239 c240 : Value)
    (hQ : ∀ (d4 d21 d169 d170 d171 d172 d173 d174 d175 d176 d177 d178 d179 d180 d181 d182 d183 d184 d185 d186 d187 d188 d189 d190 d191 d192 d193 d194 d195 d196 d197 d198 d199 d200 d201 d202 d203 d204 d205 d206 d207 d208 d209 d210 d211 d212 d213 d214 d215 d216 d217 d218 d219 d220 d221 d222 d223 d224 d225 d226 d227 d228 d229 d230 d163 d164 d165 d166 d167 d168 : Value) (wc : World), Fr no wb wc → K { tmps := #[c0, c1, c2, c3, d4, .int .i64 (n1 : Int), c6, c7, c8, c9, c10, c11, c12, c13, c14, .int .i64 (n1 : Int), c16, .slice ab fl cb, c18, c19, c20, d21, c22, c23, c24, c25, c26, c27, c28, c29, c30, c31, c32, c33, c34, c35, c36, c37, c38, c39, c40, c41, c42, c43, c44, c45, c46, c47, c48, c49, c50, c51, c52, c53, c54, c55, c56, c57, c58, c59, c60, c61, c62, c63, c64, c65, c66, c67, c68, c69, c70, c71, c72, c73, c74, c75, c76, c77, c78, c79, c80, c81, c82, c83, c84, c85, c86, c87, c88, c89, c90, c91, c92, c93, c94, c95, c96, c97, c98, c99, c100, c101, c102, c103, c104, c105, c106, c107, c108, c109, c110, c111, c112, c113, c114, c115, c116, c117, c118, c119, c120, c121, c122, c123, c124, c125, c126, c127, c128, c129, c130, c131, c132, c133, c134, c135, c136, c137, c138, c139, c140, c141, c142, c143, c144, c145, c146, c147, c148, c149, c150, c151, c152, c153, c154, c155, c156, c157, c158, c159, c160, c161, c162, d163, d164, d165, d166, d167, d168, d169, d170, d171, d172, d173, d174, d175, d176, d177, d178, d179, d180, d181, d182, d183, d184, d185, d186, d187, d188, d189, d190, d191, d192, d193, d194, d195, d196, d197, d198, d199, d200, d201, d202, d203, d204, d205, d206, d207, d208, d209, d210, d211, d212, d213, d214, d215, d216, d217, d218, d219, d220, d221, d222, d223, d224, d225, d226, d227, d228, d229, d230, c231, c232, c233, c234, c235, c236, c237, c238, c239, c240], defers := [] } wc) :
    Code.wp Try.prog wLoop4 (Exit.then K Q) { tmps := #[c0, c1, c2, c3, c4, .int .i64 (n1 : Int), c6, c7, c8, c9, c10, c11, c12, c13, c14, .int .i64 (sumO (objL 0 bs)), c16, .slice ab fl cb, c18, c19, c20, .int .i64 0, c22, c23, c24, c25, c26, c27, c28, c29, c30, c31, c32, c33, c34, c35, c36, c37, c38, c39, c40, c41, c42, c43, c44, c45, c46, c47, c48, c49, c50, c51, c52, c53, c54, c55, c56, c57, c58, c59, c60, c61, c62, c63, c64, c65, c66, c67, c68, c69, c70, c71, c72, c73, c74, c75, c76, c77, c78, c79, c80, c81, c82, c83, c84, c85, c86, c87, c88, c89, c90, c91, c92, c93, c94, c95, c96, c97, c98, c99, c100, c101, c102, c103, c104, c105, c106, c107, c108, c109, c110, c111, c112, c113, c114, c115, c116, c117, c118, c119, c120, c121, c122, c123, c124, c125, c126, c127, c128, c129, c130, c131, c132, c133, c134, c135, c136, c137, c138, c139, c140, c141, c142, c143, c144, c145, c146, c147, c148, c149, c150, c151, c152, c153, c154, c155, c156, c157, c158, c159, c160, c161, c162, c163, c164, c165, c166, c167, c168, c169, c170, c171, c172, c173, c174, c175, c176, c177, c178, c179, c180, c181, c182, c183, c184, c185, c186, c187, c188, c189, c190, c191, c192, c193, c194, c195, c196, c197, c198, c199, c200, c201, c202, c203, c204, c205, c206, c207, c208, c209, c210, c211, c212, c213, c214, c215, c216, c217, c218, c219, c220, c221, c222, c223, c224, c225, c226, c227, c228, c229, c230, c231, c232, c233, c234, c235, c236, c237, c238, c239, c240], defers := [] } wb := by
  have HSUM : Hid (sumO (objL 0 bs) + sumF (freesA 0 bs) = (n1 : Int)) := by rw [Hid, sum_all, hsz]
  have hso := sumO_pos (objL 0 bs)
  have HSF : Hid (∀ k, 0 ≤ sumF ((freesA 0 bs).take k) ∧ sumF ((freesA 0 bs).take k) ≤ sumF (freesA 0 bs)) := fun k => sumF_take _ (fun x hx => by obtain ⟨⟨j, -, h2⟩, -⟩ := freesA_mem hx; omega) k
  have HRB : Hid (RdG elB wb (.slice ab fl cb) (freesA 0 bs)) := hrb
  clear hrb
  generalize hgso : sumO (objL 0 bs) = so at *
  conv => arg 2; whnf
  go_wp2_with fail
  go_loopw [15, 21] (fun sm i wz => ∃ (k : Nat), sm = .int .i64 (so + sumF ((freesA 0 bs).take k)) ∧ i = .int .i64 (k : Int) ∧ k ≤ fl ∧ Fr no wb wz) (fun _ i _ => fl - (intOf i).toNat)
  case atStart => exact ⟨0, by simp [sumF], rfl, Nat.zero_le _, Fr.refl _ _⟩
  case round =>
    obtain ⟨k, rfl, rfl, hk, hfz⟩ := hrel
    have HFZ : Hid (Fr no wb wr) := hfz
    clear hfz
    by_cases hkn : k < fl
    · obtain ⟨x, hx⟩ : ∃ x, (freesA 0 bs)[k]? = some x := ⟨_, List.getElem?_eq_getElem (by omega)⟩
      obtain ⟨xa, xl⟩ := x
      obtain ⟨⟨j, -, hj⟩, hlo, hhi⟩ := freesA_mem (List.mem_of_getElem? hx)
      simp only [] at hj hlo hhi
      have hj1 : 1 ≤ xl := by omega
      clear hj
      rw [hsz] at hhi
      obtain ⟨b6, o6, hof, hc1, hc2⟩ := (HRB.out.keep HFZ.out).at2 hx
      simp only [] at hc1 hc2
      have HNX : Hid (sumF ((freesA 0 bs).take (k + 1)) = sumF ((freesA 0 bs).take k) + xl) := by rw [Hid, take_next _ k _ hx, sumF_snoc]
      have hs0 := HSF.out k
      have hs1 := HSF.out (k + 1)
      have hs2 := HSUM.out
      rw [HNX.out] at hs1
      have HPV : Hid (∀ k', k = k' + 1 → ∃ ya yl : Int, ya + yl < xa ∧ 0 ≤ yl ∧ 0 ≤ ya ∧ wr.cell? ⟨b6, o6 + k' * 2, none⟩ = some (.int .i64 ya) ∧ wr.cell? ⟨b6, o6 + k' * 2 + 1, none⟩ = some (.int .i64 yl)) := fun k' hk' => by
        obtain ⟨z, hz⟩ : ∃ z, (freesA 0 bs)[k']? = some z := ⟨_, List.getElem?_eq_getElem (by omega)⟩
        obtain ⟨ya, yl⟩ := z
        obtain ⟨⟨j', -, hj'⟩, hlo', -⟩ := freesA_mem (List.mem_of_getElem? hz)
        simp only [] at hj' hlo'
        obtain ⟨b7, o7, hof7, hc7, hc8⟩ := (HRB.out.keep HFZ.out).at2 hz
        obtain ⟨e1, e2⟩ := same_at hof hof7
        rw [e1, e2] at hc7 hc8
        exact ⟨ya, yl, pair_at (freesA_apart hwh).1 hz hx (by omega), by omega, by omega, hc7, hc8⟩
      subst hof
      have hkni : (k : Int) < (fl : Int) := by omega
      have t1 : decide (xl < 1) = false := decide_eq_false (by omega)
      have t2 : decide (xa < 1) = false := decide_eq_false (by omega)
      have t3 : decide ((n1 : Int) + 1 < xa + xl) = false := decide_eq_false (by omega)
      generalize sumF ((freesA 0 bs).take k) = sm at *
      clear hx
      cases k with
      | zero =>
        have hk0 : decide ((0 : Int) < 0) = false := by decide
        simp only [Nat.zero_mul, Nat.add_zero] at hc1 hc2
        go_wp2_with fail
        go_quiet (fail)
        generalize hwq : World.drewN wr nq = wq
        have HQ : Hid (Fr no wb wq) := by rw [Hid, ← hwq]; exact HFZ.out.drewN nq
        have hd2 : wq.cell? ⟨b6, o6 + 1, none⟩ = some (.int .i64 xl) := by rw [← hwq]; exact hc2
        clear hwq hc1 hc2
        go_wp2_with fail
        go_roundw
        case rel => exact ⟨0 + 1, by rw [HNX.out, ← Int.add_assoc], by go_num, by omega, HQ.out⟩
        case measure => simp [intOf]; omega
      | succ k' =>
        obtain ⟨ya, yl, hp1, hp2, hp3, hcp1, hcp2⟩ := HPV.out k' rfl
        have hk0 : (0 : Int) < ((k' + 1 : Nat) : Int) := by omega
        have hnle : decide (xa ≤ ya + yl) = false := decide_eq_false (by omega)
        go_wp2_with fail
        go_quiet (fail)
        generalize hwq : World.drewN wr nq = wq
        have HQ : Hid (Fr no wb wq) := by rw [Hid, ← hwq]; exact HFZ.out.drewN nq
        have hd2 : wq.cell? ⟨b6, o6 + (k' + 1) * 2 + 1, none⟩ = some (.int .i64 xl) := by rw [← hwq]; exact hc2
        clear hwq hc1 hc2 hcp1 hcp2
        go_wp2_with fail
        go_roundw
        case rel => exact ⟨k' + 1 + 1, by rw [HNX.out, ← Int.add_assoc], by go_num, by omega, HQ.out⟩
        case measure => simp [intOf]; omega
    · obtain rfl : k = fl := by omega
      have hst : (freesA 0 bs).take k = freesA 0 bs := List.take_of_length_le (by omega)
      rw [hst]
      have hs2 := HSUM.out
      rw [hs2]
      go_wp2_with fail
      exact HFZ.out
end Go.Proofs.Ytmoejipmiicgpaa
