/- The statement on all words: the objects are added up. -/
import Derived.Test.YtmoejipmiicgpaaW0
namespace Go.Proofs.Ytmoejipmiicgpaa
open Go.ChangeShapes Go.WideShapes Go.ChangeAt Go.RowKit

set_option maxRecDepth 100000 in
set_option maxHeartbeats 8000000 in
theorem whole_loop3 (wb : World) (p g n1 n8 ca : Nat) (aa : Option Addr) (bs : List Blk) (h300 : n1 < 300) (hsz : siz bs = n1) (hol1 : (objL 0 bs).length = n8) (hol2 : n8 ≤ 300) (hp : HP wb p g bs) (hra : RdG elI wb (.slice aa n8 ca) ((objL 0 bs).map (·.1)))
    (K : Act → World → Prop) (Q : Exit → Act → World → Prop) (c0 c1 c2 c3 c4 c5 c7 c8 c9 c10 c11 c12 c13 c14 c17 c19 c20 c21 c22 c23 c24 c25 c26 c27 c28 c29 c30 c31 c32 c33 c34 c35 c36 c37 c38 c39 c40 c41 c42 c43 c44 c45 c46 c47 c48 c49 c50 c51 c52 c53 c54 c55 c56 c57 c58 c59 c60 c61 c62 c63 c64 c65 c66 c67 c68 c69 c70 c71 c72 c73 c74 c75 c76 c77 c78 c79 c80 c81 c82 c83 c84 c85 c86 c87 c88 c89 c90 c91 c92 c93 c94 c95 c96 c97 c98 c99 c100 c101 c102 c103 c104 c105 c106 c107 c108 c109 c110 c111 c112 c113 c114 c115 c116 c117 c118 c119 c120 c121 c122 c123 c124 c125 c126 c127 c128 c129 c130 c131 c132 c133 c134 c135 c136 c137 c138 c139 c140 c141 c142 c143 c144 c145 c146 c147 c148 c149 c150 c151 c152 c153 c154 c155 c156 c157 c158 c159 c160 c161 c162 c163 c164 c165 c166 c167 c168 c169 c170 c171 c172 c173 c174 c175 c176 c177 c178 c179 c180 c181 c182 c183 c184 c185 c186 c187 c188 c189 c190 c191 c192 c193 c194 c195 c196 c197 c198 c199 c200 c201 c202 c203 c204 c205 c206 c207 c208 c209 c210 c211 c212 c213 c214 c215 c216 c217 c218 c219 c220 c221 c222 c223 c224 c225 c226 c227 c228 c229 c230 c231 c232 c233 c234 c235 c236 c237 c238 c239 c240 : Value)
    (hQ : ∀ (d4 d18 d19 d20 d126 d127 d128 d129 d130 d131 d132 d133 d134 d135 d136 d137 d138 d139 d140 d141 d142 d143 d144 d145 d146 d147 d148 d149 d150 d151 d152 d153 d154 d155 d156 d157 d158 d159 d160 d161 d162 : Value) (wc : World), Fr no wb wc → K { tmps := #[c0, c1, c2, c3, d4, c5, .pointer (some ⟨p, 0, none⟩), c7, c8, c9, c10, c11, c12, c13, c14, .int .i64 (sumO (objL 0 bs)), .slice aa n8 ca, c17, d18, d19, d20, c21, c22, c23, c24, c25, c26, c27, c28, c29, c30, c31, c32, c33, c34, c35, c36, c37, c38, c39, c40, c41, c42, c43, c44, c45, c46, c47, c48, c49, c50, c51, c52, c53, c54, c55, c56, c57, c58, c59, c60, c61, c62, c63, c64, c65, c66, c67, c68, c69, c70, c71, c72, c73, c74, c75, c76, c77, c78, c79, c80, c81, c82, c83, c84, c85, c86, c87, c88, c89, c90, c91, c92, c93, c94, c95, c96, c97, c98, c99, c100, c101, c102, c103, c104, c105, c106, c107, c108, c109, c110, c111, c112, c113, c114, c115, c116, c117, c118, c119, c120, c121, c122, c123, c124, c125, d126, d127, d128, d129, d130, d131, d132, d133, d134, d135, d136, d137, d138, d139, d140, d141, d142, d143, d144, d145, d146, d147, d148, d149, d150, d151, d152, d153, d154, d155, d156, d157, d158, d159, d160, d161, d162, c163, c164, c165, c166, c167, c168, c169, c170, c171, c172, c173, c174, c175, c176, c177, c178, c179, c180, c181, c182, c183, c184, c185, c186, c187, c188, c189, c190, c191, c192, c193, c194, c195, c196, c197, c198, c199, c200, c201, c202, c203, c204, c205, c206, c207, c208, c209, c210, c211, c212, c213, c214, c215, c216, c217, c218, c219, c220, c221, c222, c223, c224, c225, c226, c227, c228, c229, c230, c231, c232, c233, c234, c235, c236, c237, c238, c239, c240], defers := [] } wc) :
    Code.wp Try.prog wLoop3 (Exit.then K Q) { tmps := #[c0, c1, c2, c3, c4, c5, .pointer (some ⟨p, 0, none⟩), c7, c8, c9, c10, c11, c12, c13, c14, .int .i64 0, .slice aa n8 ca, c17, .int .i64 0, c19, c20, c21, c22, c23, c24, c25, c26, c27, c28, c29, c30, c31, c32, c33, c34, c35, c36, c37, c38, c39, c40, c41, c42, c43, c44, c45, c46, c47, c48, c49, c50, c51, c52, c53, c54, c55, c56, c57, c58, c59, c60, c61, c62, c63, c64, c65, c66, c67, c68, c69, c70, c71, c72, c73, c74, c75, c76, c77, c78, c79, c80, c81, c82, c83, c84, c85, c86, c87, c88, c89, c90, c91, c92, c93, c94, c95, c96, c97, c98, c99, c100, c101, c102, c103, c104, c105, c106, c107, c108, c109, c110, c111, c112, c113, c114, c115, c116, c117, c118, c119, c120, c121, c122, c123, c124, c125, c126, c127, c128, c129, c130, c131, c132, c133, c134, c135, c136, c137, c138, c139, c140, c141, c142, c143, c144, c145, c146, c147, c148, c149, c150, c151, c152, c153, c154, c155, c156, c157, c158, c159, c160, c161, c162, c163, c164, c165, c166, c167, c168, c169, c170, c171, c172, c173, c174, c175, c176, c177, c178, c179, c180, c181, c182, c183, c184, c185, c186, c187, c188, c189, c190, c191, c192, c193, c194, c195, c196, c197, c198, c199, c200, c201, c202, c203, c204, c205, c206, c207, c208, c209, c210, c211, c212, c213, c214, c215, c216, c217, c218, c219, c220, c221, c222, c223, c224, c225, c226, c227, c228, c229, c230, c231, c232, c233, c234, c235, c236, c237, c238, c239, c240], defers := [] } wb := by
  have HSO : Hid (∀ k, 0 ≤ sumO ((objL 0 bs).take k) ∧ sumO ((objL 0 bs).take k) ≤ 300) := fun k => by
    have h1 := sumO_pos ((objL 0 bs).take k)
    have h2 := sumO_take (objL 0 bs) k
    have h3 := sum_all 0 bs
    have h4 := sumF_pos (freesA 0 bs) (fun x hx => by obtain ⟨⟨j, -, h2⟩, -⟩ := freesA_mem hx; omega)
    rw [hsz] at h3
    exact ⟨h1, by omega⟩
  have HRA : Hid (RdG elI wb (.slice aa n8 ca) ((objL 0 bs).map (·.1))) := hra
  have HPB : Hid (HP wb p g bs) := hp
  clear hra hp
  conv => arg 2; whnf
  go_wp2_with fail
  go_loopw [15, 18] (fun sm i wz => ∃ (k : Nat), sm = .int .i64 (sumO ((objL 0 bs).take k)) ∧ i = .int .i64 (k : Int) ∧ k ≤ n8 ∧ Fr no wb wz) (fun _ i _ => n8 - (intOf i).toNat)
  case atStart => exact ⟨0, rfl, rfl, Nat.zero_le _, Fr.refl _ _⟩
  case round =>
    obtain ⟨k, rfl, rfl, hk, hfz⟩ := hrel
    have HFZ : Hid (Fr no wb wr) := hfz
    clear hfz
    by_cases hkn : k < n8
    · obtain ⟨x, hx⟩ : ∃ x, (objL 0 bs)[k]? = some x := ⟨_, List.getElem?_eq_getElem (by omega)⟩
      obtain ⟨xa, xc, xw⟩ := x
      have hxm : ((objL 0 bs).map (·.1))[k]? = some xa := by rw [List.getElem?_map, hx]; rfl
      have hoa : objAt bs xa = some (xc, xw) := by
        have := objAt_mem.2 (List.mem_of_getElem? hx)
        simpa using this
      have hxle := objL_mem (List.mem_of_getElem? hx)
      simp only [] at hxle
      rw [hsz] at hxle
      obtain ⟨b6, o6, hof, hc6⟩ := (HRA.out.keep HFZ.out).at1 (u := .int .i64 xa) rfl rfl hxm
      have WD := words_any wr p g bs (HPB.out.keep HFZ.out) xa (by omega)
      have hcnt : cntA bs xa = (xw.length : Int) := by unfold cntA; rw [hoa]
      have hbeg : beg bs xa = true := by rw [beg_obj, hoa]; rfl
      rw [hcnt, hbeg] at WD
      simp only [errA, if_true] at WD
      have HNX : Hid (sumO ((objL 0 bs).take (k + 1)) = sumO ((objL 0 bs).take k) + (xw.length : Int) + 2) := by
        rw [Hid, take_next _ k _ hx, sumO_snoc]
      have hs0 := HSO.out k
      have hs1 := HSO.out (k + 1)
      rw [HNX.out] at hs1
      have HC6 : Hid (∀ wy, Fr no wb wy → wy.cell? ⟨b6, o6 + k, none⟩ = some (.int .i64 xa)) := fun wy fy => by
        obtain ⟨b7, o7, hof7, hc7⟩ := (HRA.out.keep fy).at1 (u := .int .i64 xa) rfl rfl hxm
        obtain ⟨e1, e2⟩ := same_at hof hof7
        rw [← e1, ← e2]
        exact hc7
      have HPV : Hid (∀ k', k = k' + 1 → ∃ xp : Int, xp < xa ∧ ∀ wy, Fr no wb wy → wy.cell? ⟨b6, o6 + k', none⟩ = some (.int .i64 xp)) := fun k' hk' => by
        obtain ⟨z, hz⟩ : ∃ z, (objL 0 bs)[k']? = some z := ⟨_, List.getElem?_eq_getElem (by omega)⟩
        obtain ⟨za, zc, zw⟩ := z
        refine ⟨za, pair_at (objL_rise 0 bs) hz hx (by omega), fun wy fy => ?_⟩
        obtain ⟨b7, o7, hof7, hc7⟩ := (HRA.out.keep fy).at1 (i := k') (x := za) (u := .int .i64 za) rfl rfl (by rw [List.getElem?_map, hz]; rfl)
        obtain ⟨e1, e2⟩ := same_at hof hof7
        rw [← e1, ← e2]
        exact hc7
      subst hof
      have hkni : (k : Int) < (n8 : Int) := by omega
      generalize xw.length = xl at *
      generalize sumO ((objL 0 bs).take k) = sm at *
      clear hx hxm hoa hcnt hbeg hxle
      go_wp2_with fail
      refine WD.mono ?_
      rintro e w6 ⟨rfl, m6, hw6⟩
      have H6 : Hid (Fr no wb w6) := by rw [hw6]; exact HFZ.out.drewN m6
      have hc7 := HC6.out w6 H6.out
      clear hw6 WD hc6
      cases k with
      | zero =>
        have hk0 : decide ((0 : Int) < 0) = false := by decide
        simp only [Nat.add_zero] at hc7
        go_wp2_with fail
        go_quiet (fail)
        generalize hwq : World.drewN w6 nq = wq
        have HQ : Hid (Fr no wb wq) := by rw [Hid, ← hwq]; exact H6.out.drewN nq
        clear hwq
        go_wp2_with fail
        go_roundw
        case rel => exact ⟨0 + 1, by rw [HNX.out], by go_num, by omega, HQ.out⟩
        case measure => simp [intOf]; omega
      | succ k' =>
        obtain ⟨xp, hxp, hcp⟩ := HPV.out k' rfl
        have hcp6 := hcp w6 H6.out
        have hk0 : (0 : Int) < ((k' + 1 : Nat) : Int) := by omega
        have hnle : decide (xa ≤ xp) = false := decide_eq_false (by omega)
        clear hcp
        go_wp2_with fail
        go_quiet (fail)
        generalize hwq : World.drewN w6 nq = wq
        have HQ : Hid (Fr no wb wq) := by rw [Hid, ← hwq]; exact H6.out.drewN nq
        clear hwq
        go_wp2_with fail
        go_roundw
        case rel => exact ⟨k' + 1 + 1, by rw [HNX.out], by go_num, by omega, HQ.out⟩
        case measure => simp [intOf]; omega
    · obtain rfl : k = n8 := by omega
      have hst : (objL 0 bs).take k = objL 0 bs := List.take_of_length_le (by omega)
      rw [hst]
      go_wp2_with fail
      exact HFZ.out
end Go.Proofs.Ytmoejipmiicgpaa
