/- HeapPlays: Release of both. -/
import Derived.Test.YtopcbcdigllenaaP0
import Derived.Deep.RegionWith
namespace Go.Proofs.Ytopcbcdigllenaa
open Go.ChangeShapes Go.WideShapes Go.ChangeAt Go.RowKit

set_option maxRecDepth 100000 in
set_option maxHeartbeats 8000000 in
theorem plays_rel (w wr : World) (p g q n s : Nat) (bs : List Blk) (T : List Ob) (wh a b : Int) (v : Nat) (ha : a ≤ 9223372036854775807)
    (hpl : Pl w wr p g q n bs T) (hbx : Bx wr s (wh, a, b, v))
    (K : Act → World → Prop) (Q : Exit → Act → World → Prop) (c0 c1 c2 c3 c4 c7 c9 c10 c11 c12 c13 c14 c15 c16 c17 c18 c19 c20 c21 c22 c23 c24 c25 c26 c27 c28 c29 c30 c31 c32 c33 c34 c35 c36 c37 c38 c39 c40 c41 c42 c43 c44 c45 c46 c47 c48 c49 c50 c51 c52 c53 c54 c55 c56 c57 c58 c59 c60 c61 c62 c63 c64 c65 c66 c67 c68 c69 c70 c71 c72 c73 c74 c75 c76 c77 c78 c79 c80 c81 c82 c83 c84 c85 c86 c87 c88 c89 c90 c91 c92 c93 c94 c95 c96 c97 c98 c99 c100 c101 c102 c103 c104 c105 c106 c107 c108 c109 c110 c111 c112 c113 c114 c115 c116 c117 c118 c119 c120 c121 c122 c123 c124 c125 c126 c127 c128 c129 c130 c131 c132 c133 c134 c135 c136 c137 c138 c139 c140 c141 c142 c143 c144 c145 c146 c147 c148 c149 c150 c151 c152 c153 c154 c155 c156 c157 c158 c159 c160 c161 c162 c163 c164 c165 c166 c167 c168 c169 c170 c171 c172 c173 c174 c175 c177 c178 c179 c180 c181 c182 c183 c184 c185 c186 c187 c188 c189 c190 c191 c192 c193 c194 c195 c196 c197 c198 c199 c200 c201 c202 c203 c204 c205 c206 c207 c208 c209 c210 c211 c212 c213 c214 c215 c216 c217 c218 c219 c220 c221 c222 c223 c224 c225 c226 c227 c228 c229 c230 c231 c232 c233 c234 c235 c236 c237 c238 c239 c240 c241 c242 c243 c244 c245 c246 c247 c248 c249 : Value)
    (hQ : ∀ (d180 d181 d182 d183 d184 d185 d186 d187 d188 : Value) (wc : World) (bs' : List Blk) (T' : List Ob), Pl w wc p g q n bs' T' → Bx wc s (wh, a, b, v) → K { tmps := #[c0, c1, c2, c3, c4, .pointer (some ⟨p, 0, none⟩), .pointer (some ⟨q, 0, none⟩), c7, .pointer (some ⟨s, 0, none⟩), c9, c10, c11, c12, c13, c14, c15, c16, c17, c18, c19, c20, c21, c22, c23, c24, c25, c26, c27, c28, c29, c30, c31, c32, c33, c34, c35, c36, c37, c38, c39, c40, c41, c42, c43, c44, c45, c46, c47, c48, c49, c50, c51, c52, c53, c54, c55, c56, c57, c58, c59, c60, c61, c62, c63, c64, c65, c66, c67, c68, c69, c70, c71, c72, c73, c74, c75, c76, c77, c78, c79, c80, c81, c82, c83, c84, c85, c86, c87, c88, c89, c90, c91, c92, c93, c94, c95, c96, c97, c98, c99, c100, c101, c102, c103, c104, c105, c106, c107, c108, c109, c110, c111, c112, c113, c114, c115, c116, c117, c118, c119, c120, c121, c122, c123, c124, c125, c126, c127, c128, c129, c130, c131, c132, c133, c134, c135, c136, c137, c138, c139, c140, c141, c142, c143, c144, c145, c146, c147, c148, c149, c150, c151, c152, c153, c154, c155, c156, c157, c158, c159, c160, c161, c162, c163, c164, c165, c166, c167, c168, c169, c170, c171, c172, c173, c174, c175, .bool true, c177, c178, c179, d180, d181, d182, d183, d184, d185, d186, d187, d188, c189, c190, c191, c192, c193, c194, c195, c196, c197, c198, c199, c200, c201, c202, c203, c204, c205, c206, c207, c208, c209, c210, c211, c212, c213, c214, c215, c216, c217, c218, c219, c220, c221, c222, c223, c224, c225, c226, c227, c228, c229, c230, c231, c232, c233, c234, c235, c236, c237, c238, c239, c240, c241, c242, c243, c244, c245, c246, c247, c248, c249], defers := [] } wc) :
    Code.wp Try.prog pRel (Exit.then K Q) { tmps := #[c0, c1, c2, c3, c4, .pointer (some ⟨p, 0, none⟩), .pointer (some ⟨q, 0, none⟩), c7, .pointer (some ⟨s, 0, none⟩), c9, c10, c11, c12, c13, c14, c15, c16, c17, c18, c19, c20, c21, c22, c23, c24, c25, c26, c27, c28, c29, c30, c31, c32, c33, c34, c35, c36, c37, c38, c39, c40, c41, c42, c43, c44, c45, c46, c47, c48, c49, c50, c51, c52, c53, c54, c55, c56, c57, c58, c59, c60, c61, c62, c63, c64, c65, c66, c67, c68, c69, c70, c71, c72, c73, c74, c75, c76, c77, c78, c79, c80, c81, c82, c83, c84, c85, c86, c87, c88, c89, c90, c91, c92, c93, c94, c95, c96, c97, c98, c99, c100, c101, c102, c103, c104, c105, c106, c107, c108, c109, c110, c111, c112, c113, c114, c115, c116, c117, c118, c119, c120, c121, c122, c123, c124, c125, c126, c127, c128, c129, c130, c131, c132, c133, c134, c135, c136, c137, c138, c139, c140, c141, c142, c143, c144, c145, c146, c147, c148, c149, c150, c151, c152, c153, c154, c155, c156, c157, c158, c159, c160, c161, c162, c163, c164, c165, c166, c167, c168, c169, c170, c171, c172, c173, c174, c175, .bool true, c177, c178, c179, c180, c181, c182, c183, c184, c185, c186, c187, c188, c189, c190, c191, c192, c193, c194, c195, c196, c197, c198, c199, c200, c201, c202, c203, c204, c205, c206, c207, c208, c209, c210, c211, c212, c213, c214, c215, c216, c217, c218, c219, c220, c221, c222, c223, c224, c225, c226, c227, c228, c229, c230, c231, c232, c233, c234, c235, c236, c237, c238, c239, c240, c241, c242, c243, c244, c245, c246, c247, c248, c249], defers := [] } wr := by
  have hfa := find_at hpl.lk a
  have hlen := hpl.lk.len.1
  have HQ : Hid _ := hQ
  have HB : Hid (Hf w wr p g q n bs T ∧ Bx wr s (wh, a, b, v)) := ⟨hpl.hf, hbx⟩
  obtain ⟨-, b1, -, -⟩ := hbx.cells
  obtain ⟨er, her⟩ : ∃ er, er = errA (beg bs a) := ⟨_, rfl⟩
  obtain ⟨T', hT'⟩ : ∃ T', T' = (match findO T a with | some i => T.take i ++ T.drop (i + 1) | none => T) := ⟨_, rfl⟩
  obtain ⟨bs', hbs'⟩ : ∃ bs', bs' = freeB bs a := ⟨_, rfl⟩
  have hcl : ∀ o ∈ T', o.cls < 9223372036854775808 := by
    intro o ho
    subst hT'
    cases hf : findO T a with
    | none => rw [hf] at ho; exact hpl.cl o ho
    | some i =>
      rw [hf] at ho
      rcases List.mem_append.1 ho with ho | ho
      · exact hpl.cl o (List.mem_of_mem_take ho)
      · exact hpl.cl o (List.mem_of_mem_drop ho)
  have hlk : Linked n bs' T' := by rw [hbs', hT']; exact hpl.lk.release a
  have RP : ∀ w1 T1, Hf w w1 p g q n bs T1 → Calls Try.prog 13 #[.pointer (some ⟨p, 0, none⟩), .int .i64 a] w1 fun e w3 => e = .returned (.int .i64 er) ∧ Hf w w3 p g q n bs' T1 ∧ ∀ s x, Bx w1 s x → Bx w3 s x := fun w1 T1 h1 => by
    rw [her, hbs']
    exact rel_prog h1 a ha
  have RD : ∀ w1 B1, Hf w w1 p g q n B1 T → Calls Try.prog 14 #[.pointer (some ⟨q, 0, none⟩), .int .i64 a] w1 fun e w3 => e = .returned (.int .i64 er) ∧ Hf w w3 p g q n B1 T' ∧ ∀ s x, Bx w1 s x → Bx w3 s x := fun w1 B1 h1 => by
    rw [her, hT', ← hfa]
    exact rel_doc h1 a (by omega)
  have RPa : Hid (∀ w1, Fr no wr w1 → Calls Try.prog 13 #[.pointer (some ⟨p, 0, none⟩), .int .i64 a] w1 fun e w3 => e = .returned (.int .i64 er) ∧ Hf w w3 p g q n bs' T ∧ Bx w3 s (wh, a, b, v)) := fun w1 f1 =>
    (RP w1 T (HB.out.1.keep f1)).mono fun _ _ ⟨x1, x2, x3⟩ => ⟨x1, x2, x3 s _ (HB.out.2.keep f1 (fun f => f))⟩
  have RDa : Hid (∀ w1, Fr no wr w1 → Calls Try.prog 14 #[.pointer (some ⟨q, 0, none⟩), .int .i64 a] w1 fun e w3 => e = .returned (.int .i64 er) ∧ Hf w w3 p g q n bs T' ∧ Bx w3 s (wh, a, b, v)) := fun w1 f1 =>
    (RD w1 bs (HB.out.1.keep f1)).mono fun _ _ ⟨x1, x2, x3⟩ => ⟨x1, x2, x3 s _ (HB.out.2.keep f1 (fun f => f))⟩
  have RPb : Hid (∀ w1, Hf w w1 p g q n bs T' ∧ Bx w1 s (wh, a, b, v) → Calls Try.prog 13 #[.pointer (some ⟨p, 0, none⟩), .int .i64 a] w1 fun e w3 => e = .returned (.int .i64 er) ∧ Pl w w3 p g q n bs' T' ∧ Bx w3 s (wh, a, b, v)) := fun w1 h1 =>
    (RP w1 T' h1.1).mono fun _ _ ⟨x1, x2, x3⟩ => ⟨x1, ⟨x2, hlk, hcl⟩, x3 s _ h1.2⟩
  have RDb : Hid (∀ w1, Hf w w1 p g q n bs' T ∧ Bx w1 s (wh, a, b, v) → Calls Try.prog 14 #[.pointer (some ⟨q, 0, none⟩), .int .i64 a] w1 fun e w3 => e = .returned (.int .i64 er) ∧ Pl w w3 p g q n bs' T' ∧ Bx w3 s (wh, a, b, v)) := fun w1 h1 =>
    (RD w1 bs' h1.1).mono fun _ _ ⟨x1, x2, x3⟩ => ⟨x1, ⟨x2, hlk, hcl⟩, x3 s _ h1.2⟩
  clear RP RD hlk hcl hbs' hT' her hfa hlen hpl hbx hQ HB
  refine Code.wp_mono (Q := Exit.then K (fun _ _ _ => False)) (fun e a w h => by cases e <;> first | exact h | exact False.elim h) ?_
  conv => arg 2; whnf
  go_wp2_with fail
  go_region_with (first | (go_at_call 13; first | (refine (RPa.out _ (by first | exact (Fr.refl no wr).drew | exact Fr.refl no wr)).mono ?_; rintro e w3 ⟨rfl, h3, k3⟩; obtain ⟨-, b3, -, -⟩ := k3.cells; have H3 : Hid (Hf w w3 p g q n bs' T ∧ Bx w3 s (wh, a, b, v)) := ⟨h3, k3⟩; clear h3 k3) | (refine (RPb.out w4 H4.out).mono ?_; rintro e w5 ⟨rfl, h5, k5⟩; have H5 : Hid (Pl w w5 p g q n bs' T' ∧ Bx w5 s (wh, a, b, v)) := ⟨h5, k5⟩; clear h5 k5)) | (go_at_call 14; first | (refine (RDa.out _ (by first | exact (Fr.refl no wr).drew | exact Fr.refl no wr)).mono ?_; rintro e w4 ⟨rfl, h4, k4⟩; obtain ⟨-, b4, -, -⟩ := k4.cells; have H4 : Hid (Hf w w4 p g q n bs T' ∧ Bx w4 s (wh, a, b, v)) := ⟨h4, k4⟩; clear h4 k4) | (refine (RDb.out w3 H3.out).mono ?_; rintro e w5 ⟨rfl, h5, k5⟩; have H5 : Hid (Pl w w5 p g q n bs' T' ∧ Bx w5 s (wh, a, b, v)) := ⟨h5, k5⟩; clear h5 k5)))
  all_goals
    go_wp2_with fail
    exact HQ.out _ _ _ _ _ _ _ _ _ _ _ _ H5.out.1 H5.out.2
end Go.Proofs.Ytopcbcdigllenaa
