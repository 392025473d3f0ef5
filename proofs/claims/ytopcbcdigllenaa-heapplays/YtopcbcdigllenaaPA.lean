/- HeapPlays: Alloc of both. -/
import Derived.Test.YtopcbcdigllenaaP0
namespace Go.Proofs.Ytopcbcdigllenaa
open Go.ChangeShapes Go.WideShapes Go.ChangeAt Go.RowKit

set_option maxRecDepth 100000 in
set_option maxHeartbeats 8000000 in
theorem plays_alloc (w wr : World) (p g q n s : Nat) (bs : List Blk) (T : List Ob) (wh a b : Int) (v : Nat) (ha : a ≤ 9223372036854775807)
    (hpl : Pl w wr p g q n bs T) (hbx : Bx wr s (wh, a, b, v))
    (K : Act → World → Prop) (Q : Exit → Act → World → Prop) (c0 c1 c2 c3 c4 c7 c9 c10 c11 c12 c13 c14 c15 c16 c17 c18 c19 c20 c21 c22 c23 c24 c25 c26 c27 c28 c29 c30 c31 c32 c33 c34 c35 c36 c37 c38 c39 c40 c41 c42 c43 c44 c45 c46 c47 c48 c49 c50 c51 c52 c53 c54 c55 c56 c57 c58 c59 c60 c61 c62 c63 c64 c65 c66 c67 c68 c69 c70 c71 c72 c73 c74 c75 c76 c77 c78 c79 c80 c81 c82 c83 c84 c85 c86 c87 c88 c89 c90 c91 c92 c93 c94 c95 c96 c97 c98 c99 c100 c101 c102 c103 c104 c105 c106 c107 c108 c109 c110 c111 c112 c113 c114 c115 c116 c117 c118 c119 c120 c121 c122 c123 c124 c125 c126 c127 c128 c129 c130 c131 c132 c133 c134 c135 c136 c137 c138 c139 c140 c141 c142 c143 c144 c145 c147 c148 c149 c150 c151 c152 c153 c154 c155 c156 c157 c158 c159 c160 c161 c162 c163 c164 c165 c166 c167 c168 c169 c170 c171 c172 c173 c174 c175 c176 c177 c178 c179 c180 c181 c182 c183 c184 c185 c186 c187 c188 c189 c190 c191 c192 c193 c194 c195 c196 c197 c198 c199 c200 c201 c202 c203 c204 c205 c206 c207 c208 c209 c210 c211 c212 c213 c214 c215 c216 c217 c218 c219 c220 c221 c222 c223 c224 c225 c226 c227 c228 c229 c230 c231 c232 c233 c234 c235 c236 c237 c238 c239 c240 c241 c242 c243 c244 c245 c246 c247 c248 c249 : Value)
    (hQ : ∀ (d9 d10 d11 d12 d150 d151 d152 d153 d154 d155 d156 d157 d158 d159 d160 d161 d162 d163 d164 d165 d166 d167 d168 d169 d170 d171 d172 d173 d174 d175 : Value) (wc : World) (bs' : List Blk) (T' : List Ob), Pl w wc p g q n bs' T' → Bx wc s (wh, a, b, v) → K { tmps := #[c0, c1, c2, c3, c4, .pointer (some ⟨p, 0, none⟩), .pointer (some ⟨q, 0, none⟩), c7, .pointer (some ⟨s, 0, none⟩), d9, d10, d11, d12, c13, c14, c15, c16, c17, c18, c19, c20, c21, c22, c23, c24, c25, c26, c27, c28, c29, c30, c31, c32, c33, c34, c35, c36, c37, c38, c39, c40, c41, c42, c43, c44, c45, c46, c47, c48, c49, c50, c51, c52, c53, c54, c55, c56, c57, c58, c59, c60, c61, c62, c63, c64, c65, c66, c67, c68, c69, c70, c71, c72, c73, c74, c75, c76, c77, c78, c79, c80, c81, c82, c83, c84, c85, c86, c87, c88, c89, c90, c91, c92, c93, c94, c95, c96, c97, c98, c99, c100, c101, c102, c103, c104, c105, c106, c107, c108, c109, c110, c111, c112, c113, c114, c115, c116, c117, c118, c119, c120, c121, c122, c123, c124, c125, c126, c127, c128, c129, c130, c131, c132, c133, c134, c135, c136, c137, c138, c139, c140, c141, c142, c143, c144, c145, .bool true, c147, c148, c149, d150, d151, d152, d153, d154, d155, d156, d157, d158, d159, d160, d161, d162, d163, d164, d165, d166, d167, d168, d169, d170, d171, d172, d173, d174, d175, c176, c177, c178, c179, c180, c181, c182, c183, c184, c185, c186, c187, c188, c189, c190, c191, c192, c193, c194, c195, c196, c197, c198, c199, c200, c201, c202, c203, c204, c205, c206, c207, c208, c209, c210, c211, c212, c213, c214, c215, c216, c217, c218, c219, c220, c221, c222, c223, c224, c225, c226, c227, c228, c229, c230, c231, c232, c233, c234, c235, c236, c237, c238, c239, c240, c241, c242, c243, c244, c245, c246, c247, c248, c249], defers := [] } wc) :
    Code.wp Try.prog pAlloc (Exit.then K Q) { tmps := #[c0, c1, c2, c3, c4, .pointer (some ⟨p, 0, none⟩), .pointer (some ⟨q, 0, none⟩), c7, .pointer (some ⟨s, 0, none⟩), c9, c10, c11, c12, c13, c14, c15, c16, c17, c18, c19, c20, c21, c22, c23, c24, c25, c26, c27, c28, c29, c30, c31, c32, c33, c34, c35, c36, c37, c38, c39, c40, c41, c42, c43, c44, c45, c46, c47, c48, c49, c50, c51, c52, c53, c54, c55, c56, c57, c58, c59, c60, c61, c62, c63, c64, c65, c66, c67, c68, c69, c70, c71, c72, c73, c74, c75, c76, c77, c78, c79, c80, c81, c82, c83, c84, c85, c86, c87, c88, c89, c90, c91, c92, c93, c94, c95, c96, c97, c98, c99, c100, c101, c102, c103, c104, c105, c106, c107, c108, c109, c110, c111, c112, c113, c114, c115, c116, c117, c118, c119, c120, c121, c122, c123, c124, c125, c126, c127, c128, c129, c130, c131, c132, c133, c134, c135, c136, c137, c138, c139, c140, c141, c142, c143, c144, c145, .bool true, c147, c148, c149, c150, c151, c152, c153, c154, c155, c156, c157, c158, c159, c160, c161, c162, c163, c164, c165, c166, c167, c168, c169, c170, c171, c172, c173, c174, c175, c176, c177, c178, c179, c180, c181, c182, c183, c184, c185, c186, c187, c188, c189, c190, c191, c192, c193, c194, c195, c196, c197, c198, c199, c200, c201, c202, c203, c204, c205, c206, c207, c208, c209, c210, c211, c212, c213, c214, c215, c216, c217, c218, c219, c220, c221, c222, c223, c224, c225, c226, c227, c228, c229, c230, c231, c232, c233, c234, c235, c236, c237, c238, c239, c240, c241, c242, c243, c244, c245, c246, c247, c248, c249], defers := [] } wr := by
  obtain ⟨pl, er, bs', AL, AD⟩ := two_alloc hpl a b ha
  obtain ⟨-, b1, b2, -⟩ := hbx.cells
  have HB : Hid (Bx wr s (wh, a, b, v)) := hbx
  have HQ : Hid _ := hQ
  have HAD : Hid (∀ w3, Hf w w3 p g q n bs' T → Calls Try.prog 12 #[.pointer (some ⟨q, 0, none⟩), .int .i64 a, .int .i64 b] w3 fun e w4 => e = .returned (.tuple #[.int .i64 pl, .int .i64 er]) ∧ ∃ T', Pl w w4 p g q n bs' T' ∧ ∀ s x, Bx w3 s x → Bx w4 s x) := AD
  clear hpl hbx hQ AD
  conv => arg 2; whnf
  go_wp2_with fail
  refine AL.mono ?_
  rintro e w3 ⟨rfl, h3, k3⟩
  have B3 := k3 s _ HB.out
  obtain ⟨-, b31, b32, -⟩ := B3.cells
  have HB3 : Hid (Bx w3 s (wh, a, b, v)) := B3
  have AD := HAD.out w3 h3
  clear h3 k3 B3 AL HB b1 b2 HAD
  go_wp2_with fail
  refine AD.mono ?_
  rintro e w4 ⟨rfl, T', h4, k4⟩
  have HB4 : Hid (Pl w w4 p g q n bs' T' ∧ Bx w4 s (wh, a, b, v)) := ⟨h4, k4 s _ HB3.out⟩
  clear h4 k4 AD HB3 b31 b32
  go_wp2_with fail
  exact HQ.out _ _ _ _ _ _ _ _ _ _ _ _ _ _ _ _ _ _ _ _ _ _ _ _ _ _ _ _ _ _ _ _ _ HB4.out.1 HB4.out.2
end Go.Proofs.Ytopcbcdigllenaa
