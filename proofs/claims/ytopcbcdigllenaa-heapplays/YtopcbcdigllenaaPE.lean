/- HeapPlays: behind the switch. -/
import Derived.Test.YtopcbcdigllenaaP1
namespace Go.Proofs.Ytopcbcdigllenaa
open Go.ChangeShapes Go.WideShapes Go.ChangeAt Go.RowKit

set_option maxRecDepth 100000 in
set_option maxHeartbeats 8000000 in
theorem plays_tail (w wr : World) (p g q n s : Nat) (bs : List Blk) (T : List Ob) (wh a b : Int) (v : Nat) (ha : a ≤ 9223372036854775807)
    (hpl : Pl w wr p g q n bs T) (hbx : Bx wr s (wh, a, b, v))
    (K : Act → World → Prop) (Q : Exit → Act → World → Prop) (c0 c1 c2 c3 c4 c7 c9 c10 c11 c12 c13 c14 c15 c16 c17 c18 c19 c20 c21 c22 c23 c24 c25 c26 c27 c28 c29 c30 c31 c32 c33 c34 c35 c36 c37 c38 c39 c40 c41 c42 c43 c44 c45 c46 c47 c48 c49 c50 c51 c52 c53 c54 c55 c56 c57 c58 c59 c60 c61 c62 c63 c64 c65 c66 c67 c68 c69 c70 c71 c72 c73 c74 c75 c76 c77 c78 c79 c80 c81 c82 c83 c84 c85 c86 c87 c88 c89 c90 c91 c92 c93 c94 c95 c96 c97 c98 c99 c100 c101 c102 c103 c104 c105 c106 c107 c108 c109 c110 c111 c112 c113 c114 c115 c116 c117 c118 c119 c120 c121 c122 c123 c124 c125 c126 c127 c128 c129 c130 c131 c132 c133 c134 c135 c136 c137 c138 c139 c140 c141 c142 c143 c144 c145 c146 c147 c148 c149 c150 c151 c152 c153 c154 c155 c156 c157 c158 c159 c160 c161 c162 c163 c164 c165 c166 c167 c168 c169 c170 c171 c172 c173 c174 c175 c176 c177 c178 c179 c180 c181 c182 c183 c184 c185 c186 c187 c188 c189 c190 c191 c192 c193 c194 c195 c196 c197 c198 c199 c200 c201 c202 c203 c204 c205 c206 c207 c208 c209 c210 c211 c212 c213 c214 c215 c216 c217 c218 c219 c220 c221 c222 c223 c224 c225 c226 c227 c228 c229 c230 c231 c232 c233 c234 c235 c236 c237 c238 c239 c240 c241 c242 c243 c244 c245 c246 c247 c248 c249 : Value)
    (hQ : ∀ (d17 d18 d19 d20 d21 d189 d190 d191 d192 d193 d194 d195 d196 d197 d198 d199 d200 d201 d202 d203 d204 d205 d206 d207 d208 d209 d210 d211 d212 d213 d214 d215 d216 d217 d218 d219 d220 d221 d222 d223 d224 d225 d226 d227 d228 d229 d230 d231 d232 d233 d234 d235 d236 d237 d238 d239 d240 d241 d242 d243 d244 d245 d246 d247 d248 d249 : Value) (wc : World) (bs' : List Blk) (T' : List Ob), Pl w wc p g q n bs' T' → Bx wc s (wh, a, b, v) → K { tmps := #[c0, c1, c2, c3, c4, .pointer (some ⟨p, 0, none⟩), .pointer (some ⟨q, 0, none⟩), c7, .pointer (some ⟨s, 0, none⟩), c9, c10, c11, c12, c13, c14, c15, c16, d17, d18, d19, d20, d21, c22, c23, c24, c25, c26, c27, c28, c29, c30, c31, c32, c33, c34, c35, c36, c37, c38, c39, c40, c41, c42, c43, c44, c45, c46, c47, c48, c49, c50, c51, c52, c53, c54, c55, c56, c57, c58, c59, c60, c61, c62, c63, c64, c65, c66, c67, c68, c69, c70, c71, c72, c73, c74, c75, c76, c77, c78, c79, c80, c81, c82, c83, c84, c85, c86, c87, c88, c89, c90, c91, c92, c93, c94, c95, c96, c97, c98, c99, c100, c101, c102, c103, c104, c105, c106, c107, c108, c109, c110, c111, c112, c113, c114, c115, c116, c117, c118, c119, c120, c121, c122, c123, c124, c125, c126, c127, c128, c129, c130, c131, c132, c133, c134, c135, c136, c137, c138, c139, c140, c141, c142, c143, c144, c145, c146, c147, c148, c149, c150, c151, c152, c153, c154, c155, c156, c157, c158, c159, c160, c161, c162, c163, c164, c165, c166, c167, c168, c169, c170, c171, c172, c173, c174, c175, c176, c177, c178, c179, c180, c181, c182, c183, c184, c185, c186, c187, c188, d189, d190, d191, d192, d193, d194, d195, d196, d197, d198, d199, d200, d201, d202, d203, d204, d205, d206, d207, d208, d209, d210, d211, d212, d213, d214, d215, d216, d217, d218, d219, d220, d221, d222, d223, d224, d225, d226, d227, d228, d229, d230, d231, d232, d233, d234, d235, d236, d237, d238, d239, d240, d241, d242, d243, d244, d245, d246, d247, d248, d249], defers := [] } wc) :
    Code.wp Try.prog pTail (Exit.then K Q) { tmps := #[c0, c1, c2, c3, c4, .pointer (some ⟨p, 0, none⟩), .pointer (some ⟨q, 0, none⟩), c7, .pointer (some ⟨s, 0, none⟩), c9, c10, c11, c12, c13, c14, c15, c16, c17, c18, c19, c20, c21, c22, c23, c24, c25, c26, c27, c28, c29, c30, c31, c32, c33, c34, c35, c36, c37, c38, c39, c40, c41, c42, c43, c44, c45, c46, c47, c48, c49, c50, c51, c52, c53, c54, c55, c56, c57, c58, c59, c60, c61, c62, c63, c64, c65, c66, c67, c68, c69, c70, c71, c72, c73, c74, c75, c76, c77, c78, c79, c80, c81, c82, c83, c84, c85, c86, c87, c88, c89, c90, c91, c92, c93, c94, c95, c96, c97, c98, c99, c100, c101, c102, c103, c104, c105, c106, c107, c108, c109, c110, c111, c112, c113, c114, c115, c116, c117, c118, c119, c120, c121, c122, c123, c124, c125, c126, c127, c128, c129, c130, c131, c132, c133, c134, c135, c136, c137, c138, c139, c140, c141, c142, c143, c144, c145, c146, c147, c148, c149, c150, c151, c152, c153, c154, c155, c156, c157, c158, c159, c160, c161, c162, c163, c164, c165, c166, c167, c168, c169, c170, c171, c172, c173, c174, c175, c176, c177, c178, c179, c180, c181, c182, c183, c184, c185, c186, c187, c188, c189, c190, c191, c192, c193, c194, c195, c196, c197, c198, c199, c200, c201, c202, c203, c204, c205, c206, c207, c208, c209, c210, c211, c212, c213, c214, c215, c216, c217, c218, c219, c220, c221, c222, c223, c224, c225, c226, c227, c228, c229, c230, c231, c232, c233, c234, c235, c236, c237, c238, c239, c240, c241, c242, c243, c244, c245, c246, c247, c248, c249], defers := [] } wr := by
  have AK := alike_any wr p g q n bs T hpl.hf.hp hpl.hf.rr hpl.lk
  have HX : Hid (Pl w wr p g q n bs T ∧ Bx wr s (wh, a, b, v)) := ⟨hpl, hbx⟩
  have HQ : Hid _ := hQ
  have hfa := find_at hpl.lk a
  have hlen := hpl.lk.len.1
  cases hfo : findO T a with
  | none =>
    have hbeg : beg bs a = false := by rw [← hfa, hfo]; rfl
    have hob : objAt bs a = none := by
      cases ho : objAt bs a with
      | none => rfl
      | some x => rw [beg_obj, ho] at hbeg; simp at hbeg
    have hcls : clsA bs a = 0 := by unfold clsA; rw [hob]
    have hcnt : cntA bs a = 0 := by unfold cntA; rw [hob]
    clear hfa hpl hbx hQ hob
    conv => arg 2; whnf
    go_wp2_with fail
    refine AK.mono ?_
    rintro e w1 ⟨rfl, f1⟩
    have H1 : Hid (Pl w w1 p g q n bs T ∧ Bx w1 s (wh, a, b, v)) := ⟨HX.out.1.keep f1, HX.out.2.keep f1 (fun f => f)⟩
    have CL := class_any w1 p g bs H1.out.1.hf.hp a ha (H1.out.1.cls a)
    obtain ⟨-, b1, -, -⟩ := H1.out.2.cells
    rw [hbeg, hcls] at CL
    clear f1 AK HX
    go_wp2_with fail
    refine CL.mono ?_
    rintro e w2 ⟨rfl, m2, hw2⟩
    have f2 : Fr no w1 w2 := by rw [hw2]; exact (Fr.refl no w1).drewN m2
    have H2 : Hid (Pl w w2 p g q n bs T ∧ Bx w2 s (wh, a, b, v)) := ⟨H1.out.1.keep f2, H1.out.2.keep f2 (fun f => f)⟩
    have WL := words_any w2 p g bs H2.out.1.hf.hp a ha
    obtain ⟨-, b2, -, -⟩ := H2.out.2.cells
    rw [hbeg, hcnt] at WL
    clear f2 hw2 CL H1 b1
    go_wp2_with fail
    refine WL.mono ?_
    rintro e w3 ⟨rfl, m3, hw3⟩
    have f3 : Fr no w2 w3 := by rw [hw3]; exact (Fr.refl no w2).drewN m3
    have H3 : Hid (Pl w w3 p g q n bs T ∧ Bx w3 s (wh, a, b, v)) := ⟨H2.out.1.keep f3, H2.out.2.keep f3 (fun f => f)⟩
    have FD := find_any w3 q g (n : Int) T H3.out.1.hf.rr a (by omega)
    obtain ⟨-, b3, -, -⟩ := H3.out.2.cells
    rw [hfo] at FD
    simp only [fdA] at FD
    clear f3 hw3 WL H2 b2
    clear hbeg hcls hcnt hfo
    simp only [errA] at *
    go_wp2_with fail
    refine FD.mono ?_
    rintro e w4 ⟨rfl, rfl⟩
    go_wp2_with fail
    exact HQ.out _ _ _ _ _ _ _ _ _ _ _ _ _ _ _ _ _ _ _ _ _ _ _ _ _ _ _ _ _ _ _ _ _ _ _ _ _ _ _ _ _ _ _ _ _ _ _ _ _ _ _ _ _ _ _ _ _ _ _ _ _ _ _ _ _ _ _ _ _ H3.out.1 H3.out.2
  | some k =>
    have hbeg : beg bs a = true := by rw [← hfa, hfo]; rfl
    obtain ⟨x, hx, hxa, hkl⟩ := find_split hfo
    obtain ⟨hob, -⟩ := hpl.lk.at_ hx
    rw [hxa] at hob
    obtain ⟨blk, hblk, -, -⟩ := hpl.hf.rr.wd x (List.mem_of_getElem? hx)
    have hsl : x.sl = .slice (some ⟨blk, 0, none⟩) x.ws.length x.ws.length := by unfold Ob.sl; rw [hblk]; rfl
    have hcls : clsA bs a = (x.cls : Int) := by unfold clsA; rw [hob]
    have hcnt : cntA bs a = (x.ws.length : Int) := by unfold cntA; rw [hob]
    have HKX : Hid (T[k]? = some x) := hx
    clear hfa hpl hbx hQ hob hx hxa hblk
    generalize x.ws.length = xl at *
    generalize hxc : x.cls = xc at *
    conv => arg 2; whnf
    go_wp2_with fail
    refine AK.mono ?_
    rintro e w1 ⟨rfl, f1⟩
    have H1 : Hid (Pl w w1 p g q n bs T ∧ Bx w1 s (wh, a, b, v)) := ⟨HX.out.1.keep f1, HX.out.2.keep f1 (fun f => f)⟩
    have CL := class_any w1 p g bs H1.out.1.hf.hp a ha (H1.out.1.cls a)
    obtain ⟨-, b1, -, -⟩ := H1.out.2.cells
    rw [hbeg, hcls] at CL
    clear f1 AK HX
    go_wp2_with fail
    refine CL.mono ?_
    rintro e w2 ⟨rfl, m2, hw2⟩
    have f2 : Fr no w1 w2 := by rw [hw2]; exact (Fr.refl no w1).drewN m2
    have H2 : Hid (Pl w w2 p g q n bs T ∧ Bx w2 s (wh, a, b, v)) := ⟨H1.out.1.keep f2, H1.out.2.keep f2 (fun f => f)⟩
    have WL := words_any w2 p g bs H2.out.1.hf.hp a ha
    obtain ⟨-, b2, -, -⟩ := H2.out.2.cells
    rw [hbeg, hcnt] at WL
    clear f2 hw2 CL H1 b1
    go_wp2_with fail
    refine WL.mono ?_
    rintro e w3 ⟨rfl, m3, hw3⟩
    have f3 : Fr no w2 w3 := by rw [hw3]; exact (Fr.refl no w2).drewN m3
    have H3 : Hid (Pl w w3 p g q n bs T ∧ Bx w3 s (wh, a, b, v)) := ⟨H2.out.1.keep f3, H2.out.2.keep f3 (fun f => f)⟩
    have FD := find_any w3 q g (n : Int) T H3.out.1.hf.rr a (by omega)
    obtain ⟨-, b3, -, -⟩ := H3.out.2.cells
    obtain ⟨ad, cap, -, hc1, hrd⟩ := H3.out.1.hf.rr.cells
    obtain ⟨bb, off, had, -, hc2, hc3⟩ := hrd.at3 HKX.out
    subst had
    rw [hsl] at hc3
    clear hrd
    rw [hfo] at FD
    simp only [fdA] at FD
    clear f3 hw3 WL H2 b2
    clear hbeg hcls hcnt hfo
    simp only [errA] at *
    go_wp2_with fail
    refine FD.mono ?_
    rintro e w4 ⟨rfl, rfl⟩
    go_wp2_with fail
    exact HQ.out _ _ _ _ _ _ _ _ _ _ _ _ _ _ _ _ _ _ _ _ _ _ _ _ _ _ _ _ _ _ _ _ _ _ _ _ _ _ _ _ _ _ _ _ _ _ _ _ _ _ _ _ _ _ _ _ _ _ _ _ _ _ _ _ _ _ _ _ _ H3.out.1 H3.out.2
end Go.Proofs.Ytopcbcdigllenaa
