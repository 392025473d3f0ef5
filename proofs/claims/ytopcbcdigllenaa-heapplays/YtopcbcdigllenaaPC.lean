/- HeapPlays: a word of no object. -/
import Derived.Test.YtopcbcdigllenaaP1
namespace Go.Proofs.Ytopcbcdigllenaa
open Go.ChangeShapes Go.WideShapes Go.ChangeAt Go.RowKit

set_option maxRecDepth 100000 in
set_option maxHeartbeats 8000000 in
theorem plays_none (w wr : World) (p g q n s : Nat) (bs : List Blk) (T : List Ob) (wh a b : Int) (v : Nat) (ha : a ≤ 9223372036854775807)
    (hpl : Pl w wr p g q n bs T) (hbx : Bx wr s (wh, a, b, v)) (hfo : findO T a = none) (hno : hasW bs a b = false)
    (K : Act → World → Prop) (Q : Exit → Act → World → Prop) (c0 c1 c2 c3 c4 c7 c9 c10 c11 c12 c13 c14 c15 c16 c17 c18 c19 c20 c21 c22 c23 c24 c25 c26 c27 c28 c29 c30 c31 c32 c33 c34 c35 c36 c37 c38 c39 c40 c41 c42 c43 c44 c45 c46 c47 c48 c49 c50 c51 c52 c53 c54 c55 c56 c57 c58 c59 c60 c61 c62 c63 c64 c65 c66 c67 c68 c69 c70 c71 c72 c73 c74 c75 c76 c77 c78 c79 c80 c81 c82 c83 c84 c85 c86 c87 c88 c89 c90 c91 c92 c93 c94 c95 c96 c97 c98 c99 c100 c101 c102 c103 c104 c105 c106 c107 c108 c109 c110 c111 c112 c113 c114 c115 c116 c117 c118 c119 c120 c121 c122 c123 c124 c125 c126 c127 c128 c129 c130 c131 c132 c133 c134 c135 c136 c137 c138 c139 c140 c141 c142 c143 c144 c145 c146 c147 c148 c149 c150 c151 c152 c153 c154 c155 c156 c157 c158 c159 c160 c161 c162 c163 c164 c165 c166 c167 c168 c169 c170 c171 c172 c173 c174 c175 c177 c178 c179 c180 c181 c182 c183 c184 c185 c186 c187 c188 c189 c190 c191 c192 c193 c194 c195 c196 c197 c198 c199 c200 c201 c202 c203 c204 c205 c206 c207 c208 c209 c210 c211 c212 c213 c214 c215 c216 c217 c218 c219 c220 c221 c222 c223 c224 c225 c226 c227 c228 c229 c230 c231 c232 c233 c234 c235 c236 c237 c238 c239 c240 c241 c242 c243 c244 c245 c246 c247 c248 c249 : Value)
    (hQ : ∀ (d13 d14 d15 d16 d41 d42 d43 d44 d45 d46 d47 d48 d49 d50 d51 d52 d53 d54 d55 d56 d57 d58 d59 d60 d61 d62 d63 d64 d65 d66 d67 d68 d69 d70 d71 d72 d73 d74 d75 d76 d77 d78 d79 d80 d81 d82 d83 d84 d85 d86 d87 d88 d89 d90 d91 d92 d93 d94 d95 d96 d97 d98 d99 d100 d101 d102 d103 d104 d105 d106 d107 d108 d109 d110 d111 d112 d113 d114 d115 d116 d117 d118 d119 d120 d121 d122 d123 d124 d125 d126 d127 d128 d129 d130 d131 d132 d133 d134 d135 d136 d137 d138 d139 d140 d141 d142 d143 d144 d145 : Value) (wc : World) (bs' : List Blk) (T' : List Ob), Pl w wc p g q n bs' T' → Bx wc s (wh, a, b, v) → K { tmps := #[c0, c1, c2, c3, c4, .pointer (some ⟨p, 0, none⟩), .pointer (some ⟨q, 0, none⟩), c7, .pointer (some ⟨s, 0, none⟩), c9, c10, c11, c12, d13, d14, d15, d16, c17, c18, c19, c20, c21, c22, c23, c24, c25, c26, c27, c28, c29, c30, c31, c32, c33, c34, c35, c36, c37, c38, c39, c40, d41, d42, d43, d44, d45, d46, d47, d48, d49, d50, d51, d52, d53, d54, d55, d56, d57, d58, d59, d60, d61, d62, d63, d64, d65, d66, d67, d68, d69, d70, d71, d72, d73, d74, d75, d76, d77, d78, d79, d80, d81, d82, d83, d84, d85, d86, d87, d88, d89, d90, d91, d92, d93, d94, d95, d96, d97, d98, d99, d100, d101, d102, d103, d104, d105, d106, d107, d108, d109, d110, d111, d112, d113, d114, d115, d116, d117, d118, d119, d120, d121, d122, d123, d124, d125, d126, d127, d128, d129, d130, d131, d132, d133, d134, d135, d136, d137, d138, d139, d140, d141, d142, d143, d144, d145, c146, c147, c148, c149, c150, c151, c152, c153, c154, c155, c156, c157, c158, c159, c160, c161, c162, c163, c164, c165, c166, c167, c168, c169, c170, c171, c172, c173, c174, c175, .bool false, c177, c178, c179, c180, c181, c182, c183, c184, c185, c186, c187, c188, c189, c190, c191, c192, c193, c194, c195, c196, c197, c198, c199, c200, c201, c202, c203, c204, c205, c206, c207, c208, c209, c210, c211, c212, c213, c214, c215, c216, c217, c218, c219, c220, c221, c222, c223, c224, c225, c226, c227, c228, c229, c230, c231, c232, c233, c234, c235, c236, c237, c238, c239, c240, c241, c242, c243, c244, c245, c246, c247, c248, c249], defers := [] } wc) :
    Code.wp Try.prog pRel (Exit.then K Q) { tmps := #[c0, c1, c2, c3, c4, .pointer (some ⟨p, 0, none⟩), .pointer (some ⟨q, 0, none⟩), c7, .pointer (some ⟨s, 0, none⟩), c9, c10, c11, c12, c13, c14, c15, c16, c17, c18, c19, c20, c21, c22, c23, c24, c25, c26, c27, c28, c29, c30, c31, c32, c33, c34, c35, c36, c37, c38, c39, c40, c41, c42, c43, c44, c45, c46, c47, c48, c49, c50, c51, c52, c53, c54, c55, c56, c57, c58, c59, c60, c61, c62, c63, c64, c65, c66, c67, c68, c69, c70, c71, c72, c73, c74, c75, c76, c77, c78, c79, c80, c81, c82, c83, c84, c85, c86, c87, c88, c89, c90, c91, c92, c93, c94, c95, c96, c97, c98, c99, c100, c101, c102, c103, c104, c105, c106, c107, c108, c109, c110, c111, c112, c113, c114, c115, c116, c117, c118, c119, c120, c121, c122, c123, c124, c125, c126, c127, c128, c129, c130, c131, c132, c133, c134, c135, c136, c137, c138, c139, c140, c141, c142, c143, c144, c145, c146, c147, c148, c149, c150, c151, c152, c153, c154, c155, c156, c157, c158, c159, c160, c161, c162, c163, c164, c165, c166, c167, c168, c169, c170, c171, c172, c173, c174, c175, .bool false, c177, c178, c179, c180, c181, c182, c183, c184, c185, c186, c187, c188, c189, c190, c191, c192, c193, c194, c195, c196, c197, c198, c199, c200, c201, c202, c203, c204, c205, c206, c207, c208, c209, c210, c211, c212, c213, c214, c215, c216, c217, c218, c219, c220, c221, c222, c223, c224, c225, c226, c227, c228, c229, c230, c231, c232, c233, c234, c235, c236, c237, c238, c239, c240, c241, c242, c243, c244, c245, c246, c247, c248, c249], defers := [] } wr := by
  have HX : Hid (Pl w wr p g q n bs T ∧ Bx wr s (wh, a, b, v)) := ⟨hpl, hbx⟩
  have HQ : Hid _ := hQ
  have FD := find_any wr q g (n : Int) T hpl.hf.rr a (by have := hpl.lk.len.1; omega)
  obtain ⟨b0, b1, b2, b3⟩ := hbx.cells
  have PT : Hid (∀ w1, Fr no wr w1 → Calls Try.prog 16 #[.pointer (some ⟨p, 0, none⟩), .int .i64 a, .int .i64 b, .int .u64 (v : Int)] w1 fun e w3 => e = .returned (.int .i64 111) ∧ Pl w w3 p g q n bs T ∧ Bx w3 s (wh, a, b, v)) := fun w1 f1 => by
    have h := put_any w1 p g bs (HX.out.1.hf.keep f1).hp a b v ha
    rw [hno, putB_none bs a b v hno] at h
    refine h.mono fun _ _ ⟨x1, x2, x3⟩ => ?_
    obtain ⟨y1, y2⟩ := (HX.out.1.hf.keep f1).prog x2 x3
    exact ⟨x1, ⟨y1, HX.out.1.lk, HX.out.1.cl⟩, y2 _ _ (HX.out.2.keep f1 (fun f => f))⟩
  have hget : getW bs a b = 0 := by
    unfold hasW at hno
    unfold getW
    cases ho : objAt bs a with
    | none => rfl
    | some x =>
      rw [ho] at hno
      simp only [decide_eq_false_iff_not] at hno
      simp only []
      rw [if_neg hno]
  have GT : Hid (∀ w1, Pl w w1 p g q n bs T ∧ Bx w1 s (wh, a, b, v) → Calls Try.prog 17 #[.pointer (some ⟨p, 0, none⟩), .int .i64 a, .int .i64 b] w1 fun e w3 => e = .returned (.tuple #[.int .u64 0, .int .i64 111]) ∧ Pl w w3 p g q n bs T ∧ Bx w3 s (wh, a, b, v)) := fun w1 h1 => by
    have h := get_any w1 p g bs h1.1.hf.hp a b ha
    rw [hno, hget] at h
    refine h.mono fun _ _ ⟨x1, m, x2⟩ => ?_
    subst x2
    have f : Fr no w1 (w1.drewN m) := (Fr.refl no w1).drewN m
    exact ⟨x1, h1.1.keep f, h1.2.keep f (fun f => f)⟩
  clear hget
  rw [hfo] at FD
  simp only [fdA] at FD
  clear hfo hno hpl hbx hQ
  refine Code.wp_mono (Q := Exit.then K (fun _ _ _ => False)) (fun e a w h => by cases e <;> first | exact h | exact False.elim h) ?_
  conv => arg 2; whnf
  by_cases hw : wh = 6
  · have hw1 : (wh == 6) = true := by simp [hw]
    go_wp2_with fail
    refine FD.mono ?_
    rintro e w1 ⟨rfl, rfl⟩
    go_wp2_with fail
    go_region
    go_wp2_with fail
    refine (PT.out _ (by first | exact (Fr.refl no _).drew | exact Fr.refl no _)).mono ?_
    rintro e w2 ⟨rfl, h2, k2⟩
    obtain ⟨b20, b21, b22, b23⟩ := k2.cells
    have H2 : Hid (Pl w w2 p g q n bs T ∧ Bx w2 s (wh, a, b, v)) := ⟨h2, k2⟩
    clear h2 k2
    go_wp2_with fail
    refine (GT.out w2 H2.out).mono ?_
    rintro e w3 ⟨rfl, h3, k3⟩
    have H3 : Hid (Pl w w3 p g q n bs T ∧ Bx w3 s (wh, a, b, v)) := ⟨h3, k3⟩
    clear h3 k3
    go_wp2_with fail
    go_region
    go_wp2_with fail
    exact HQ.out _ _ _ _ _ _ _ _ _ _ _ _ _ _ _ _ _ _ _ _ _ _ _ _ _ _ _ _ _ _ _ _ _ _ _ _ _ _ _ _ _ _ _ _ _ _ _ _ _ _ _ _ _ _ _ _ _ _ _ _ _ _ _ _ _ _ _ _ _ _ _ _ _ _ _ _ _ _ _ _ _ _ _ _ _ _ _ _ _ _ _ _ _ _ _ _ _ _ _ _ _ _ _ _ _ _ _ _ _ _ _ _ (H3.out.1.keep (Fr.refl no w3).drew) (H3.out.2.keep (Fr.refl no w3).drew (fun f => f))
  · have hw1 : (wh == 6) = false := by simp [hw]
    go_wp2_with fail
    refine FD.mono ?_
    rintro e w1 ⟨rfl, rfl⟩
    go_wp2_with fail
    go_region
    go_wp2_with fail
    refine (GT.out _ ⟨HX.out.1.keep (by first | exact (Fr.refl no _).drew | exact Fr.refl no _), HX.out.2.keep (by first | exact (Fr.refl no _).drew | exact Fr.refl no _) (fun f => f)⟩).mono ?_
    rintro e w3 ⟨rfl, h3, k3⟩
    have H3 : Hid (Pl w w3 p g q n bs T ∧ Bx w3 s (wh, a, b, v)) := ⟨h3, k3⟩
    clear h3 k3
    go_wp2_with fail
    go_region
    go_wp2_with fail
    exact HQ.out _ _ _ _ _ _ _ _ _ _ _ _ _ _ _ _ _ _ _ _ _ _ _ _ _ _ _ _ _ _ _ _ _ _ _ _ _ _ _ _ _ _ _ _ _ _ _ _ _ _ _ _ _ _ _ _ _ _ _ _ _ _ _ _ _ _ _ _ _ _ _ _ _ _ _ _ _ _ _ _ _ _ _ _ _ _ _ _ _ _ _ _ _ _ _ _ _ _ _ _ _ _ _ _ _ _ _ _ _ _ _ _ (H3.out.1.keep (Fr.refl no w3).drew) (H3.out.2.keep (Fr.refl no w3).drew (fun f => f))
end Go.Proofs.Ytopcbcdigllenaa
