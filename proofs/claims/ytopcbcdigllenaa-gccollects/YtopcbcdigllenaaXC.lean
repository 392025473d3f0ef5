/- GcCollects: the edges. -/
import Derived.Test.YtopcbcdigllenaaXR
import Derived.Test.YtopcbcdigllenaaXB
import Derived.Test.YtopcbcdigllenaaXA
namespace Go.Proofs.Ytopcbcdigllenaa
open Go.ChangeShapes Go.WideShapes Go.ChangeAt Go.RowKit

def elE : El (Nat × Nat) := ⟨51, 56, 2, .agg #[.int .u8 0, .int .u8 0], 2, fun x => [.int .u8 (x.1 : Int), .int .u8 (x.2 : Int)]⟩

theorem RdG.atE {w : World} {o : Option Addr} {n c : Nat} {l : List (Nat × Nat)} (h : RdG elE w (.slice o n c) l) {i : Nat} {x : Nat × Nat} (hx : l[i]? = some x) :
    ∃ b off, o = some ⟨b, off, none⟩ ∧ w.cell? ⟨b, off + i * 2, none⟩ = some (.int .u8 (x.1 : Int)) ∧ w.cell? ⟨b, off + i * 2 + 1, none⟩ = some (.int .u8 (x.2 : Int)) := by
  obtain ⟨ad, cap, he, -, -, hit⟩ := h
  obtain ⟨b, off, hb, hc⟩ := hit i x hx
  simp only [Value.slice.injEq] at he
  exact ⟨b, off, he.1.trans hb, hc 0 _ rfl, hc 1 _ rfl⟩

noncomputable def gc_edgesC : Code := ((Try.f4.body.bind (blockOf 0)).getD .skip)

set_option maxRecDepth 100000 in
set_option maxHeartbeats 8000000 in
theorem gc_edges (w wz : World) (p g q cf ct ln cl en ce : Nat) (ol oe : Option Addr) (bs : List Blk) (T : List Ob) (L : List Int) (edges : List (Nat × Nat))
    (hln : L.length = ln) (hen : edges.length = en) (he60 : en ≤ 60) (hst : Cs w wz p g q bs T [(.slice ol ln cl, L), (.slice none 0 0, []), (.slice none 0 0, [])] [(cf, .slice none 0 0), (ct, .slice none 0 0)]) (hrd : RdG elE w (.slice oe en ce) edges) (hrb : ∀ x ∈ edges, x.1 < 256 ∧ x.2 < 256)
    (K : Act → World → Prop) (Q : Exit → Act → World → Prop) (c0 c1 c3 c4 c5 c6 c7 c8 c9 c10 c11 c12 c17 c18 c19 c20 c21 c22 c23 c24 c25 c26 c27 c28 c29 c30 c31 c32 c33 c34 c35 c36 c37 c38 c39 c40 c41 c42 c43 c44 c45 c46 c47 c48 c49 c50 c51 c52 c53 c54 c55 c56 c57 c58 c59 c60 c61 c62 c63 c64 c65 c66 c67 c68 c69 c70 c71 c72 c73 c74 c75 c76 c77 c78 c79 c80 c81 c82 c83 c84 c85 c86 c87 c88 c89 c90 c91 c92 c93 c94 c95 c96 c97 c98 c99 c100 c101 c102 c103 c104 c105 c106 c107 c108 c109 c110 c111 c112 c113 c114 c115 c116 c117 c118 c119 c120 c121 c122 c123 c124 c125 c126 c127 c128 c129 c130 c131 c132 c133 c134 c135 c136 c137 c138 c139 c140 c141 c142 c143 c144 c145 c146 c147 c148 c149 c150 c151 c152 c153 c154 c155 c156 c157 c158 c159 c160 c161 c162 c163 c164 c165 c166 c167 c168 c169 c170 c171 c172 c173 c174 c175 c176 c177 c178 c179 c180 c181 c182 c183 c184 c185 c186 c187 c188 c189 c190 c191 c192 c193 c194 c195 c196 c197 c198 c199 c200 c201 c202 c203 c204 c205 c206 c207 c208 c209 c210 c211 c212 c213 c214 c215 c216 c217 c218 c219 c220 c221 c222 c223 c224 c225 c226 c227 c228 c229 c230 c231 c232 c233 c234 c235 c236 c237 c238 c239 c240 c241 c242 c243 c244 c245 c246 c247 c248 c249 c250 c251 c252 c253 c254 c255 c256 c257 c258 c259 c260 c261 c262 c263 c264 c265 c266 c267 c268 c269 c270 c271 c272 c273 c274 c275 : Value)
    (hQ : ∀ (d16 d58 d59 d60 d61 d62 d63 d64 d65 d66 d67 d68 d69 d70 d71 d72 d73 d74 d75 d76 d77 d78 d79 d80 d81 d82 d83 d84 d85 d86 d87 d88 d89 d90 d91 d92 d93 d94 d95 d96 d97 d98 : Value) (wc : World) (vf vt : Value) (fs ts : List Int), Cs w wc p g q bs T [(.slice ol ln cl, L), (vf, fs), (vt, ts)] [(cf, vf), (ct, vt)] → fs.length = ts.length → fs.length ≤ 60 → K { tmps := #[c0, c1, .slice oe en ce, c3, c4, c5, c6, c7, c8, c9, c10, c11, c12, .slice ol ln cl, .pointer (some ⟨cf, 0, none⟩), .pointer (some ⟨ct, 0, none⟩), d16, c17, c18, c19, c20, c21, c22, c23, c24, c25, c26, c27, c28, c29, c30, c31, c32, c33, c34, c35, c36, c37, c38, c39, c40, c41, c42, c43, c44, c45, c46, c47, c48, c49, c50, c51, c52, c53, c54, c55, c56, c57, d58, d59, d60, d61, d62, d63, d64, d65, d66, d67, d68, d69, d70, d71, d72, d73, d74, d75, d76, d77, d78, d79, d80, d81, d82, d83, d84, d85, d86, d87, d88, d89, d90, d91, d92, d93, d94, d95, d96, d97, d98, c99, c100, c101, c102, c103, c104, c105, c106, c107, c108, c109, c110, c111, c112, c113, c114, c115, c116, c117, c118, c119, c120, c121, c122, c123, c124, c125, c126, c127, c128, c129, c130, c131, c132, c133, c134, c135, c136, c137, c138, c139, c140, c141, c142, c143, c144, c145, c146, c147, c148, c149, c150, c151, c152, c153, c154, c155, c156, c157, c158, c159, c160, c161, c162, c163, c164, c165, c166, c167, c168, c169, c170, c171, c172, c173, c174, c175, c176, c177, c178, c179, c180, c181, c182, c183, c184, c185, c186, c187, c188, c189, c190, c191, c192, c193, c194, c195, c196, c197, c198, c199, c200, c201, c202, c203, c204, c205, c206, c207, c208, c209, c210, c211, c212, c213, c214, c215, c216, c217, c218, c219, c220, c221, c222, c223, c224, c225, c226, c227, c228, c229, c230, c231, c232, c233, c234, c235, c236, c237, c238, c239, c240, c241, c242, c243, c244, c245, c246, c247, c248, c249, c250, c251, c252, c253, c254, c255, c256, c257, c258, c259, c260, c261, c262, c263, c264, c265, c266, c267, c268, c269, c270, c271, c272, c273, c274, c275], defers := [] } wc) :
    Code.wp Try.prog gc_edgesC (Exit.then K Q) { tmps := #[c0, c1, .slice oe en ce, c3, c4, c5, c6, c7, c8, c9, c10, c11, c12, .slice ol ln cl, .pointer (some ⟨cf, 0, none⟩), .pointer (some ⟨ct, 0, none⟩), .int .i64 0, c17, c18, c19, c20, c21, c22, c23, c24, c25, c26, c27, c28, c29, c30, c31, c32, c33, c34, c35, c36, c37, c38, c39, c40, c41, c42, c43, c44, c45, c46, c47, c48, c49, c50, c51, c52, c53, c54, c55, c56, c57, c58, c59, c60, c61, c62, c63, c64, c65, c66, c67, c68, c69, c70, c71, c72, c73, c74, c75, c76, c77, c78, c79, c80, c81, c82, c83, c84, c85, c86, c87, c88, c89, c90, c91, c92, c93, c94, c95, c96, c97, c98, c99, c100, c101, c102, c103, c104, c105, c106, c107, c108, c109, c110, c111, c112, c113, c114, c115, c116, c117, c118, c119, c120, c121, c122, c123, c124, c125, c126, c127, c128, c129, c130, c131, c132, c133, c134, c135, c136, c137, c138, c139, c140, c141, c142, c143, c144, c145, c146, c147, c148, c149, c150, c151, c152, c153, c154, c155, c156, c157, c158, c159, c160, c161, c162, c163, c164, c165, c166, c167, c168, c169, c170, c171, c172, c173, c174, c175, c176, c177, c178, c179, c180, c181, c182, c183, c184, c185, c186, c187, c188, c189, c190, c191, c192, c193, c194, c195, c196, c197, c198, c199, c200, c201, c202, c203, c204, c205, c206, c207, c208, c209, c210, c211, c212, c213, c214, c215, c216, c217, c218, c219, c220, c221, c222, c223, c224, c225, c226, c227, c228, c229, c230, c231, c232, c233, c234, c235, c236, c237, c238, c239, c240, c241, c242, c243, c244, c245, c246, c247, c248, c249, c250, c251, c252, c253, c254, c255, c256, c257, c258, c259, c260, c261, c262, c263, c264, c265, c266, c267, c268, c269, c270, c271, c272, c273, c274, c275], defers := [] } wz := by
  have HQ : Hid _ := hQ
  clear hQ
  have H0 : Hid _ := hst
  have HE : Hid (RdG elE w (.slice oe en ce) edges) := hrd
  clear hst hrd
  conv => arg 2; whnf
  go_wp2_with fail
  go_loopw [16] (fun i wx => ∃ (t : Nat) (vf vt : Value) (fs ts : List Int), i = .int .i64 (t : Int) ∧ t ≤ en ∧ Cs w wx p g q bs T [(.slice ol ln cl, L), (vf, fs), (vt, ts)] [(cf, vf), (ct, vt)] ∧ fs.length = ts.length ∧ fs.length ≤ t) (fun i _ => en - (intOf i).toNat)
  case atStart => exact ⟨0, _, _, [], [], rfl, Nat.zero_le _, H0.out, rfl, Nat.le_refl _⟩
  case round =>
    clear H0
    obtain ⟨t, vf, vt, fs, ts, rfl, htn, hst, hlen, hlt⟩ := hrel
    by_cases h2 : t < en
    · have h2' : (t : Int) < (en : Int) := by omega
      by_cases h0 : 0 < ln
      · have h0' : (0 : Int) < (ln : Int) := by omega
        obtain ⟨y, hy⟩ : ∃ y, edges[t]? = some y := ⟨_, List.getElem?_eq_getElem (by omega)⟩
        obtain ⟨b0, o0, hov, hcy1, hcy2⟩ := (HE.out.keep hst.hf.fr).atE hy
        subst hov
        obtain ⟨y1, y2⟩ := y
        simp only at hcy1 hcy2
        have hyb := hrb (y1, y2) (List.mem_of_getElem? hy)
        simp only at hyb
        obtain ⟨k1, hk1⟩ : ∃ k : Nat, k = y1 % ln := ⟨_, rfl⟩
        obtain ⟨k2, hk2⟩ : ∃ k : Nat, k = y2 % ln := ⟨_, rfl⟩
        have e1 : (y1 : Int) % (ln : Int) = (k1 : Int) := by rw [hk1]; rfl
        have e1' : (y1 : Int).tmod (ln : Int) = (k1 : Int) := by rw [hk1]; rfl
        have e2 : (y2 : Int) % (ln : Int) = (k2 : Int) := by rw [hk2]; rfl
        have e2' : (y2 : Int).tmod (ln : Int) = (k2 : Int) := by rw [hk2]; rfl
        have hk1t : k1 < ln := by rw [hk1]; exact Nat.mod_lt _ h0
        have hk2t : k2 < ln := by rw [hk2]; exact Nat.mod_lt _ h0
        have hk1' : (k1 : Int) < (ln : Int) := by omega
        have hk2' : (k2 : Int) < (ln : Int) := by omega
        have ht0 : ¬ ((ln : Int) = 0) := by omega
        obtain ⟨a1, ha1⟩ : ∃ a, L[k1]? = some a := ⟨_, List.getElem?_eq_getElem (by omega)⟩
        obtain ⟨a2, ha2⟩ : ∃ a, L[k2]? = some a := ⟨_, List.getElem?_eq_getElem (by omega)⟩
        obtain ⟨b3, o3, hol, -⟩ := hst.at (i := 0) rfl ha1 _ _ _ rfl
        subst hol
        have HST : Hid (Cs w wr p g q bs T [(.slice (some ⟨b3, o3, none⟩) ln cl, L), (vf, fs), (vt, ts)] [(cf, vf), (ct, vt)]) := hst
        have HEC : Hid (∀ W, Fr no w W → W.cell? ⟨b0, o0 + t * 2, none⟩ = some (.int .u8 (y1 : Int)) ∧ W.cell? ⟨b0, o0 + t * 2 + 1, none⟩ = some (.int .u8 (y2 : Int))) := fun W fW => by
          obtain ⟨b8, o8, ho8, hc7, hc8⟩ := (HE.out.keep fW).atE hy
          obtain ⟨rfl, rfl⟩ := same_at rfl ho8
          exact ⟨hc7, hc8⟩
        clear hst hcy1 hcy2
        go_upto_region 12 with fail
        rename_i K0 h0x
        refine Code.wp_mono (Q := Exit.then K0 (fun _ _ _ => False)) (fun e a w h => by cases e <;> first | exact h | exact False.elim h) ?_
        refine reg12 w wr p g q cf ct ln cl en ce t k1 k2 y1 y2 b0 o0 b3 o3 bs T L fs ts vf vt a1 a2 HST.out h2' hyb.1 hyb.2 (by omega) e1' e2' hk1' hk2' ha1 ha2 HEC.out (by omega) (by omega) _ _ _ _ _ _ _ _ _ _ _ _ _ _ _ _ _ _ _ _ _ _ _ _ _ _ _ _ _ _ _ _ _ _ _ _ _ _ _ _ _ _ _ _ _ _ _ _ _ _ _ _ _ _ _ _ _ _ _ _ _ _ _ _ _ _ _ _ _ _ _ _ _ _ _ _ _ _ _ _ _ _ _ _ _ _ _ _ _ _ _ _ _ _ _ _ _ _ _ _ _ _ _ _ _ _ _ _ _ _ _ _ _ _ _ _ _ _ _ _ _ _ _ _ _ _ _ _ _ _ _ _ _ _ _ _ _ _ _ _ _ _ _ _ _ _ _ _ _ _ _ _ _ _ _ _ _ _ _ _ _ _ _ _ _ _ _ _ _ _ _ _ _ _ _ _ _ _ _ _ _ _ _ _ _ _ _ _ _ _ _ _ _ _ _ _ _ _ _ _ _ _ _ _ _ _ _ _ _ _ _ _ _ _ _ _ _ _ _ _ _ _ _ _ _ _ _ _ _ _ _ _ _ _ _ _ _ _ _ _ _ _ _ _ _ _ _ _ _ _ _ _ _ _ _ _ _ _ _ _ _ _ _ _ _ _ _ _ _ _ _ _ ?_
        intro d69 d70 d71 d72 d73 d74 d75 d76 d77 d78 d79 d80 d81 d82 d83 d84 d85 d86 d87 d88 d89 d90 d91 d92 d93 d94 d95 d96 d97 d98 wc uf ut hcs
        have H9 : Hid _ := hcs
        clear hcs HST
        refine h0x _ _ ?_
        go_wp2_with fail
        go_roundw
        case rel => exact ⟨t + 1, _, _, fs ++ [a1], ts ++ [a2], by go_num, by omega, H9.out, by simp; omega, by simp; omega⟩
        case measure => simp [intOf]; omega
      · have h0' : ¬ ((0 : Int) < (ln : Int)) := by omega
        have HX : Hid _ := hst
        clear hst
        go_wp2_with fail
        exact HQ.out _ _ _ _ _ _ _ _ _ _ _ _ _ _ _ _ _ _ _ _ _ _ _ _ _ _ _ _ _ _ _ _ _ _ _ _ _ _ _ _ _ _ _ vf vt fs ts HX.out hlen (by omega)
    · have h2' : ¬ ((t : Int) < (en : Int)) := by omega
      have HX : Hid _ := hst
      clear hst
      go_wp2_with fail
      exact HQ.out _ _ _ _ _ _ _ _ _ _ _ _ _ _ _ _ _ _ _ _ _ _ _ _ _ _ _ _ _ _ _ _ _ _ _ _ _ _ _ _ _ _ _ vf vt fs ts HX.out hlen (by omega)
end Go.Proofs.Ytopcbcdigllenaa

/- GcCollects: the roots. -/
namespace Go.Proofs.Ytopcbcdigllenaa
open Go.ChangeShapes Go.WideShapes Go.ChangeAt Go.RowKit

noncomputable def gc_rootsC : Code := ((Try.f4.body.bind (blockOf 2)).getD .skip)

set_option maxRecDepth 100000 in
set_option maxHeartbeats 8000000 in
theorem gc_roots (w wz : World) (p g q cf ct ln cl rn cr an ca : Nat) (ol orr oa : Option Addr) (bs : List Blk) (T : List Ob) (L fs ts A0 : List Int) (vf vt : Value) (roots : List Nat)
    (hln : L.length = ln) (hrn : roots.length = rn) (hr12 : rn ≤ 12) (hA0 : A0.length ≤ 1) (hst : Cs w wz p g q bs T [(.slice ol ln cl, L), (vf, fs), (vt, ts), (.slice oa an ca, A0)] [(cf, vf), (ct, vt)]) (hrd : RdG elY w (.slice orr rn cr) roots) (hrb : ∀ x ∈ roots, x < 256)
    (K : Act → World → Prop) (Q : Exit → Act → World → Prop) (c0 c1 c2 c4 c5 c6 c7 c8 c9 c10 c11 c12 c14 c15 c16 c19 c20 c21 c22 c23 c24 c25 c26 c27 c28 c29 c30 c31 c32 c33 c34 c35 c36 c37 c38 c39 c40 c41 c42 c43 c44 c45 c46 c47 c48 c49 c50 c51 c52 c53 c54 c55 c56 c57 c58 c59 c60 c61 c62 c63 c64 c65 c66 c67 c68 c69 c70 c71 c72 c73 c74 c75 c76 c77 c78 c79 c80 c81 c82 c83 c84 c85 c86 c87 c88 c89 c90 c91 c92 c93 c94 c95 c96 c97 c98 c99 c100 c101 c102 c103 c104 c105 c106 c107 c108 c109 c110 c111 c112 c113 c114 c115 c116 c117 c118 c119 c120 c121 c122 c123 c124 c125 c126 c127 c128 c129 c130 c131 c132 c133 c134 c135 c136 c137 c138 c139 c140 c141 c142 c143 c144 c145 c146 c147 c148 c149 c150 c151 c152 c153 c154 c155 c156 c157 c158 c159 c160 c161 c162 c163 c164 c165 c166 c167 c168 c169 c170 c171 c172 c173 c174 c175 c176 c177 c178 c179 c180 c181 c182 c183 c184 c185 c186 c187 c188 c189 c190 c191 c192 c193 c194 c195 c196 c197 c198 c199 c200 c201 c202 c203 c204 c205 c206 c207 c208 c209 c210 c211 c212 c213 c214 c215 c216 c217 c218 c219 c220 c221 c222 c223 c224 c225 c226 c227 c228 c229 c230 c231 c232 c233 c234 c235 c236 c237 c238 c239 c240 c241 c242 c243 c244 c245 c246 c247 c248 c249 c250 c251 c252 c253 c254 c255 c256 c257 c258 c259 c260 c261 c262 c263 c264 c265 c266 c267 c268 c269 c270 c271 c272 c273 c274 c275 : Value)
    (hQ : ∀ (d17 d18 d101 d102 d103 d104 d105 d106 d107 d108 d109 d110 d111 d112 d113 d114 d115 d116 d117 d118 d119 d120 d121 d122 d123 d124 d125 : Value) (wc : World) (A : List Int), Cs w wc p g q bs T [(.slice ol ln cl, L), (vf, fs), (vt, ts), (d17, A)] [(cf, vf), (ct, vt)] → A.length ≤ 13 → K { tmps := #[c0, c1, c2, .slice orr rn cr, c4, c5, c6, c7, c8, c9, c10, c11, c12, .slice ol ln cl, c14, c15, c16, d17, d18, c19, c20, c21, c22, c23, c24, c25, c26, c27, c28, c29, c30, c31, c32, c33, c34, c35, c36, c37, c38, c39, c40, c41, c42, c43, c44, c45, c46, c47, c48, c49, c50, c51, c52, c53, c54, c55, c56, c57, c58, c59, c60, c61, c62, c63, c64, c65, c66, c67, c68, c69, c70, c71, c72, c73, c74, c75, c76, c77, c78, c79, c80, c81, c82, c83, c84, c85, c86, c87, c88, c89, c90, c91, c92, c93, c94, c95, c96, c97, c98, c99, c100, d101, d102, d103, d104, d105, d106, d107, d108, d109, d110, d111, d112, d113, d114, d115, d116, d117, d118, d119, d120, d121, d122, d123, d124, d125, c126, c127, c128, c129, c130, c131, c132, c133, c134, c135, c136, c137, c138, c139, c140, c141, c142, c143, c144, c145, c146, c147, c148, c149, c150, c151, c152, c153, c154, c155, c156, c157, c158, c159, c160, c161, c162, c163, c164, c165, c166, c167, c168, c169, c170, c171, c172, c173, c174, c175, c176, c177, c178, c179, c180, c181, c182, c183, c184, c185, c186, c187, c188, c189, c190, c191, c192, c193, c194, c195, c196, c197, c198, c199, c200, c201, c202, c203, c204, c205, c206, c207, c208, c209, c210, c211, c212, c213, c214, c215, c216, c217, c218, c219, c220, c221, c222, c223, c224, c225, c226, c227, c228, c229, c230, c231, c232, c233, c234, c235, c236, c237, c238, c239, c240, c241, c242, c243, c244, c245, c246, c247, c248, c249, c250, c251, c252, c253, c254, c255, c256, c257, c258, c259, c260, c261, c262, c263, c264, c265, c266, c267, c268, c269, c270, c271, c272, c273, c274, c275], defers := [] } wc) :
    Code.wp Try.prog gc_rootsC (Exit.then K Q) { tmps := #[c0, c1, c2, .slice orr rn cr, c4, c5, c6, c7, c8, c9, c10, c11, c12, .slice ol ln cl, c14, c15, c16, .slice oa an ca, .int .i64 0, c19, c20, c21, c22, c23, c24, c25, c26, c27, c28, c29, c30, c31, c32, c33, c34, c35, c36, c37, c38, c39, c40, c41, c42, c43, c44, c45, c46, c47, c48, c49, c50, c51, c52, c53, c54, c55, c56, c57, c58, c59, c60, c61, c62, c63, c64, c65, c66, c67, c68, c69, c70, c71, c72, c73, c74, c75, c76, c77, c78, c79, c80, c81, c82, c83, c84, c85, c86, c87, c88, c89, c90, c91, c92, c93, c94, c95, c96, c97, c98, c99, c100, c101, c102, c103, c104, c105, c106, c107, c108, c109, c110, c111, c112, c113, c114, c115, c116, c117, c118, c119, c120, c121, c122, c123, c124, c125, c126, c127, c128, c129, c130, c131, c132, c133, c134, c135, c136, c137, c138, c139, c140, c141, c142, c143, c144, c145, c146, c147, c148, c149, c150, c151, c152, c153, c154, c155, c156, c157, c158, c159, c160, c161, c162, c163, c164, c165, c166, c167, c168, c169, c170, c171, c172, c173, c174, c175, c176, c177, c178, c179, c180, c181, c182, c183, c184, c185, c186, c187, c188, c189, c190, c191, c192, c193, c194, c195, c196, c197, c198, c199, c200, c201, c202, c203, c204, c205, c206, c207, c208, c209, c210, c211, c212, c213, c214, c215, c216, c217, c218, c219, c220, c221, c222, c223, c224, c225, c226, c227, c228, c229, c230, c231, c232, c233, c234, c235, c236, c237, c238, c239, c240, c241, c242, c243, c244, c245, c246, c247, c248, c249, c250, c251, c252, c253, c254, c255, c256, c257, c258, c259, c260, c261, c262, c263, c264, c265, c266, c267, c268, c269, c270, c271, c272, c273, c274, c275], defers := [] } wz := by
  have HQ : Hid _ := hQ
  clear hQ
  have H0 : Hid _ := hst
  have HR : Hid (RdG elY w (.slice orr rn cr) roots ∧ ∀ x ∈ roots, x < 256) := ⟨hrd, hrb⟩
  clear hst hrd hrb
  conv => arg 2; whnf
  go_wp2_with fail
  go_loopw [17, 18] (fun lv i wx => ∃ (t : Nat) (A : List Int), i = .int .i64 (t : Int) ∧ t ≤ rn ∧ Cs w wx p g q bs T [(.slice ol ln cl, L), (vf, fs), (vt, ts), (lv, A)] [(cf, vf), (ct, vt)] ∧ A.length ≤ t + 1) (fun _ i _ => rn - (intOf i).toNat)
  case atStart => exact ⟨0, A0, rfl, Nat.zero_le _, H0.out, by omega⟩
  case round =>
    clear H0
    obtain ⟨t, A, rfl, htn, hst, hal⟩ := hrel
    by_cases h2 : t < rn
    · have h2' : (t : Int) < (rn : Int) := by omega
      by_cases h0 : 0 < ln
      · have h0' : (0 : Int) < (ln : Int) := by omega
        obtain ⟨y, hy⟩ : ∃ y, roots[t]? = some y := ⟨_, List.getElem?_eq_getElem (by omega)⟩
        have hyb := HR.out.2 y (List.mem_of_getElem? hy)
        obtain ⟨b0, o0, hov, hcy⟩ := (HR.out.1.keep hst.hf.fr).at1 (u := .int .u8 (y : Int)) rfl rfl hy
        subst hov
        obtain ⟨kk, hkk⟩ : ∃ kk : Nat, kk = y % ln := ⟨_, rfl⟩
        have ek : (y : Int) % (ln : Int) = (kk : Int) := by rw [hkk]; rfl
        have ek' : (y : Int).tmod (ln : Int) = (kk : Int) := by rw [hkk]; rfl
        have hkt : kk < ln := by rw [hkk]; exact Nat.mod_lt _ h0
        have hkt' : (kk : Int) < (ln : Int) := by omega
        have ht0 : ¬ ((ln : Int) = 0) := by omega
        obtain ⟨a, ha⟩ : ∃ a, L[kk]? = some a := ⟨_, List.getElem?_eq_getElem (by omega)⟩
        obtain ⟨b1, o1, hol, hca⟩ := hst.at (i := 0) rfl ha _ _ _ rfl
        subst hol
        have HM5 : Hid (Cs w (wr.alloc (.cells (elI.f a).toArray elI.e)) p g q bs T [(.slice (some ⟨b1, o1, none⟩) ln cl, L), (vf, fs), (vt, ts), (u17, A)] [(cf, vf), (ct, vt)]) := hst.keep ((Fr.refl no wr).alloc _ _)
        have HO5 : Hid (OwnG elI (wr.alloc (.cells (elI.f a).toArray elI.e)) u17 A) := HM5.out.own 3 _ rfl
        clear hst hy ha hkk
        go_wp2_with (at_builtin; refine wpList_apdG elI_ok _ rfl rfl _ _ rfl u17 A rfl HO5.out _ rfl [a] (srcG_one elI_ok wr a) (by simp; omega) ?_; intro v' w6 o6 s6; have H6 : Hid (Cs w w6 p g q bs T [(.slice (some ⟨b1, o1, none⟩) ln cl, L), (vf, fs), (vt, ts), (v', A ++ [a])] [(cf, vf), (ct, vt)]) := HM5.out.push (i := 3) rfl o6 s6; clear o6 s6)
        go_roundw
        case rel => exact ⟨t + 1, A ++ [a], by go_num, by omega, H6.out, by simp; omega⟩
        case measure => simp [intOf]; omega
      · have h0' : ¬ ((0 : Int) < (ln : Int)) := by omega
        have HX : Hid _ := hst
        clear hst
        go_wp2_with fail
        exact HQ.out _ _ _ _ _ _ _ _ _ _ _ _ _ _ _ _ _ _ _ _ _ _ _ _ _ _ _ _ A HX.out (by omega)
    · have h2' : ¬ ((t : Int) < (rn : Int)) := by omega
      have HX : Hid _ := hst
      clear hst
      go_wp2_with fail
      exact HQ.out _ _ _ _ _ _ _ _ _ _ _ _ _ _ _ _ _ _ _ _ _ _ _ _ _ _ _ _ A HX.out (by omega)
end Go.Proofs.Ytopcbcdigllenaa

/- GcCollects: what is wanted. -/
namespace Go.Proofs.Ytopcbcdigllenaa
open Go.ChangeShapes Go.WideShapes Go.ChangeAt Go.RowKit

def wantZ : List Ob → List Bool → List Int
  | x :: xs, z :: zs => if z = true then x.at_ :: wantZ xs zs else wantZ xs zs
  | _, _ => []

theorem wantZ_take (T : List Ob) (Z : List Bool) (i : Nat) (x : Ob) (z : Bool) (hx : T[i]? = some x) (hz : Z[i]? = some z) : wantZ (T.take (i + 1)) (Z.take (i + 1)) = wantZ (T.take i) (Z.take i) ++ (if z = true then [x.at_] else []) := by
  induction T generalizing Z i with
  | nil => simp at hx
  | cons y ys ih =>
    cases Z with
    | nil => simp at hz
    | cons u us =>
      cases i with
      | zero =>
        simp only [List.getElem?_cons_zero, Option.some.injEq] at hx hz
        subst hx hz
        simp only [List.take_succ_cons, List.take_zero, wantZ, List.nil_append]
      | succ i =>
        simp only [List.getElem?_cons_succ] at hx hz
        have := ih us i hx hz
        simp only [List.take_succ_cons, wantZ]
        split
        · rw [this]
          simp
        · exact this

theorem wantZ_len (T : List Ob) (Z : List Bool) : (wantZ T Z).length ≤ T.length := by
  induction T generalizing Z with
  | nil => simp [wantZ]
  | cons y ys ih =>
    cases Z with
    | nil => simp [wantZ]
    | cons u us =>
      have := ih us
      simp only [wantZ]
      split
      · simp only [List.length_cons]
        omega
      · simp only [List.length_cons]
        omega

theorem wantZ_filter (T : List Ob) (Z : List Bool) (f : Int → Bool) (hl : Z.length = T.length) (h : ∀ (k : Nat) (x : Ob), T[k]? = some x → (Z[k]? = some true ↔ f x.at_ = true)) : wantZ T Z = (atsO T).filter f := by
  induction T generalizing Z with
  | nil => simp [wantZ, atsO]
  | cons y ys ih =>
    cases Z with
    | nil => simp at hl
    | cons u us =>
      have h0 := h 0 y rfl
      have ih' := ih us (by simpa using hl) (fun k x hx => by have := h (k + 1) x (by simpa using hx); simpa using this)
      have e : atsO (y :: ys) = y.at_ :: atsO ys := rfl
      rw [e, List.filter_cons, ← ih']
      simp only [wantZ]
      simp only [List.getElem?_cons_zero, Option.some.injEq] at h0
      by_cases hu : u = true
      · rw [if_pos hu, if_pos (h0.1 hu)]
      · rw [if_neg hu, if_neg (fun hf => hu (h0.2 hf))]

noncomputable def gc_wantC : Code := ((Try.f4.body.bind (blockOf 4)).getD .skip)

set_option maxRecDepth 100000 in
set_option maxHeartbeats 8000000 in
theorem gc_want (w wz : World) (p g q cf ct ca ln cl zn cz : Nat) (ol oz : Option Addr) (bs : List Blk) (T : List Ob) (L fs ts A : List Int) (vf vt v17 : Value) (Z : List Bool)
    (hzn : Z.length = zn) (hTn : T.length = zn) (hz2 : zn ≤ 2048) (hst : Cs w wz p g q bs T [(.slice ol ln cl, L), (vf, fs), (vt, ts), (v17, A), (.slice none 0 0, []), (.slice none 0 0, [])] [(cf, vf), (ct, vt), (ca, .slice none 0 0)]) (hz : OwnG elZ wz (.slice oz zn cz) Z)
    (K : Act → World → Prop) (Q : Exit → Act → World → Prop) (c0 c1 c2 c3 c4 c5 c6 c7 c8 c9 c10 c11 c13 c14 c15 c16 c17 c18 c19 c20 c24 c25 c26 c27 c28 c29 c30 c31 c32 c33 c34 c35 c36 c37 c38 c39 c40 c41 c42 c43 c44 c45 c46 c47 c48 c49 c50 c51 c52 c53 c54 c55 c56 c57 c58 c59 c60 c61 c62 c63 c64 c65 c66 c67 c68 c69 c70 c71 c72 c73 c74 c75 c76 c77 c78 c79 c80 c81 c82 c83 c84 c85 c86 c87 c88 c89 c90 c91 c92 c93 c94 c95 c96 c97 c98 c99 c100 c101 c102 c103 c104 c105 c106 c107 c108 c109 c110 c111 c112 c113 c114 c115 c116 c117 c118 c119 c120 c121 c122 c123 c124 c125 c126 c127 c128 c129 c130 c131 c132 c133 c134 c135 c136 c137 c138 c139 c140 c141 c142 c143 c144 c145 c146 c147 c148 c149 c150 c151 c152 c153 c154 c155 c156 c157 c158 c159 c160 c161 c162 c163 c164 c165 c166 c167 c168 c169 c170 c171 c172 c173 c174 c175 c176 c177 c178 c179 c180 c181 c182 c183 c184 c185 c186 c187 c188 c189 c190 c191 c192 c193 c194 c195 c196 c197 c198 c199 c200 c201 c202 c203 c204 c205 c206 c207 c208 c209 c210 c211 c212 c213 c214 c215 c216 c217 c218 c219 c220 c221 c222 c223 c224 c225 c226 c227 c228 c229 c230 c231 c232 c233 c234 c235 c236 c237 c238 c239 c240 c241 c242 c243 c244 c245 c246 c247 c248 c249 c250 c251 c252 c253 c254 c255 c256 c257 c258 c259 c260 c261 c262 c263 c264 c265 c266 c267 c268 c269 c270 c271 c272 c273 c274 c275 : Value)
    (hQ : ∀ (d22 d23 d132 d133 d134 d135 d136 d137 d138 d139 d140 d141 d142 d143 d144 d145 d146 d147 d148 d149 d150 d151 d152 : Value) (wc : World) , Cs w wc p g q bs T [(.slice ol ln cl, L), (vf, fs), (vt, ts), (v17, A), (.slice none 0 0, []), (d22, wantZ T Z)] [(cf, vf), (ct, vt), (ca, .slice none 0 0)] → OwnG elZ wc (.slice oz zn cz) Z → K { tmps := #[c0, c1, c2, c3, c4, c5, c6, c7, c8, c9, c10, c11, .pointer (some ⟨q, 0, none⟩), c13, c14, c15, c16, c17, c18, c19, c20, .slice oz zn cz, d22, d23, c24, c25, c26, c27, c28, c29, c30, c31, c32, c33, c34, c35, c36, c37, c38, c39, c40, c41, c42, c43, c44, c45, c46, c47, c48, c49, c50, c51, c52, c53, c54, c55, c56, c57, c58, c59, c60, c61, c62, c63, c64, c65, c66, c67, c68, c69, c70, c71, c72, c73, c74, c75, c76, c77, c78, c79, c80, c81, c82, c83, c84, c85, c86, c87, c88, c89, c90, c91, c92, c93, c94, c95, c96, c97, c98, c99, c100, c101, c102, c103, c104, c105, c106, c107, c108, c109, c110, c111, c112, c113, c114, c115, c116, c117, c118, c119, c120, c121, c122, c123, c124, c125, c126, c127, c128, c129, c130, c131, d132, d133, d134, d135, d136, d137, d138, d139, d140, d141, d142, d143, d144, d145, d146, d147, d148, d149, d150, d151, d152, c153, c154, c155, c156, c157, c158, c159, c160, c161, c162, c163, c164, c165, c166, c167, c168, c169, c170, c171, c172, c173, c174, c175, c176, c177, c178, c179, c180, c181, c182, c183, c184, c185, c186, c187, c188, c189, c190, c191, c192, c193, c194, c195, c196, c197, c198, c199, c200, c201, c202, c203, c204, c205, c206, c207, c208, c209, c210, c211, c212, c213, c214, c215, c216, c217, c218, c219, c220, c221, c222, c223, c224, c225, c226, c227, c228, c229, c230, c231, c232, c233, c234, c235, c236, c237, c238, c239, c240, c241, c242, c243, c244, c245, c246, c247, c248, c249, c250, c251, c252, c253, c254, c255, c256, c257, c258, c259, c260, c261, c262, c263, c264, c265, c266, c267, c268, c269, c270, c271, c272, c273, c274, c275], defers := [] } wc) :
    Code.wp Try.prog gc_wantC (Exit.then K Q) { tmps := #[c0, c1, c2, c3, c4, c5, c6, c7, c8, c9, c10, c11, .pointer (some ⟨q, 0, none⟩), c13, c14, c15, c16, c17, c18, c19, c20, .slice oz zn cz, .slice none 0 0, .int .i64 0, c24, c25, c26, c27, c28, c29, c30, c31, c32, c33, c34, c35, c36, c37, c38, c39, c40, c41, c42, c43, c44, c45, c46, c47, c48, c49, c50, c51, c52, c53, c54, c55, c56, c57, c58, c59, c60, c61, c62, c63, c64, c65, c66, c67, c68, c69, c70, c71, c72, c73, c74, c75, c76, c77, c78, c79, c80, c81, c82, c83, c84, c85, c86, c87, c88, c89, c90, c91, c92, c93, c94, c95, c96, c97, c98, c99, c100, c101, c102, c103, c104, c105, c106, c107, c108, c109, c110, c111, c112, c113, c114, c115, c116, c117, c118, c119, c120, c121, c122, c123, c124, c125, c126, c127, c128, c129, c130, c131, c132, c133, c134, c135, c136, c137, c138, c139, c140, c141, c142, c143, c144, c145, c146, c147, c148, c149, c150, c151, c152, c153, c154, c155, c156, c157, c158, c159, c160, c161, c162, c163, c164, c165, c166, c167, c168, c169, c170, c171, c172, c173, c174, c175, c176, c177, c178, c179, c180, c181, c182, c183, c184, c185, c186, c187, c188, c189, c190, c191, c192, c193, c194, c195, c196, c197, c198, c199, c200, c201, c202, c203, c204, c205, c206, c207, c208, c209, c210, c211, c212, c213, c214, c215, c216, c217, c218, c219, c220, c221, c222, c223, c224, c225, c226, c227, c228, c229, c230, c231, c232, c233, c234, c235, c236, c237, c238, c239, c240, c241, c242, c243, c244, c245, c246, c247, c248, c249, c250, c251, c252, c253, c254, c255, c256, c257, c258, c259, c260, c261, c262, c263, c264, c265, c266, c267, c268, c269, c270, c271, c272, c273, c274, c275], defers := [] } wz := by
  have HQ : Hid _ := hQ
  clear hQ
  have H0 : Hid _ := hst
  have HZ0 : Hid (OwnG elZ wz (.slice oz zn cz) Z) := hz
  clear hst hz
  conv => arg 2; whnf
  go_wp2_with fail
  go_loopw [22, 23] (fun lv i wx => ∃ (t : Nat), i = .int .i64 (t : Int) ∧ t ≤ zn ∧ Cs w wx p g q bs T [(.slice ol ln cl, L), (vf, fs), (vt, ts), (v17, A), (.slice none 0 0, []), (lv, wantZ (T.take t) (Z.take t))] [(cf, vf), (ct, vt), (ca, .slice none 0 0)] ∧ OwnG elZ wx (.slice oz zn cz) Z) (fun _ i _ => zn - (intOf i).toNat)
  case atStart => exact ⟨0, rfl, Nat.zero_le _, by simpa [wantZ] using H0.out, HZ0.out⟩
  case round =>
    clear H0 HZ0
    obtain ⟨t, rfl, htn, hst, hz⟩ := hrel
    by_cases h2 : t < zn
    · have h2' : (t : Int) < (zn : Int) := by omega
      obtain ⟨x, hx⟩ : ∃ x, T[t]? = some x := ⟨_, List.getElem?_eq_getElem (by omega)⟩
      obtain ⟨z, hzt⟩ : ∃ z, Z[t]? = some z := ⟨_, List.getElem?_eq_getElem (by omega)⟩
      have hnx := wantZ_take T Z t x z hx hzt
      obtain ⟨b0, o0, hov, hcz⟩ := (hz.rd elZ_ok).at1 (u := .bool z) rfl rfl hzt
      obtain ⟨ad, cap, -, hc1, hrdo⟩ := hst.hf.rr.cells
      obtain ⟨bb, off, had, hc2, -, -⟩ := hrdo.at3 hx
      subst had
      have hfl : (wantZ (T.take t) (Z.take t)).length ≤ 3000 := by
        have h1 := wantZ_len (T.take t) (Z.take t)
        rw [List.length_take] at h1
        omega
      have hTt : (t : Int) < (T.length : Int) := by omega
      have HST : Hid (Cs w wr p g q bs T [(.slice ol ln cl, L), (vf, fs), (vt, ts), (v17, A), (.slice none 0 0, []), (u22, wantZ (T.take t) (Z.take t))] [(cf, vf), (ct, vt), (ca, .slice none 0 0)] ∧ OwnG elZ wr (.slice oz zn cz) Z) := ⟨hst, hz⟩
      subst hov
      clear hst hz hx hzt hrdo
      cases z with
      | false =>
        have HN : Hid (wantZ (T.take (t + 1)) (Z.take (t + 1)) = wantZ (T.take t) (Z.take t)) := by
          rw [Hid, hnx]
          simp
        clear hnx
        go_wp2_with fail
        go_roundw
        case rel => exact ⟨t + 1, by go_num, by omega, by rw [HN.out]; exact HST.out.1, HST.out.2⟩
        case measure => simp [intOf]; omega
      | true =>
        have HN : Hid (wantZ (T.take (t + 1)) (Z.take (t + 1)) = wantZ (T.take t) (Z.take t) ++ [x.at_]) := by
          rw [Hid, hnx]
          simp
        have HM5 : Hid (Cs w (wr.alloc (.cells (elI.f x.at_).toArray elI.e)) p g q bs T [(.slice ol ln cl, L), (vf, fs), (vt, ts), (v17, A), (.slice none 0 0, []), (u22, wantZ (T.take t) (Z.take t))] [(cf, vf), (ct, vt), (ca, .slice none 0 0)]) := HST.out.1.keep ((Fr.refl no wr).alloc _ _)
        have HO5 : Hid (OwnG elI (wr.alloc (.cells (elI.f x.at_).toArray elI.e)) u22 (wantZ (T.take t) (Z.take t))) := HM5.out.own 5 _ rfl
        have HZ5 : Hid (OwnG elZ (wr.alloc (.cells (elI.f x.at_).toArray elI.e)) (.slice (some ⟨b0, o0, none⟩) zn cz) Z) := HST.out.2.keep ((Fr.refl no wr).alloc _ _)
        clear hnx
        generalize wantZ (T.take t) (Z.take t) = Y at *
        generalize x.at_ = xa at *
        go_wp2_with (at_builtin; refine wpList_apdG elI_ok _ rfl rfl _ _ rfl u22 Y rfl HO5.out _ rfl [xa] (srcG_one elI_ok wr xa) (by simp; omega) ?_; intro v' w6 o6 s6; have H6 : Hid (Cs w w6 p g q bs T [(.slice ol ln cl, L), (vf, fs), (vt, ts), (v17, A), (.slice none 0 0, []), (v', Y ++ [xa])] [(cf, vf), (ct, vt), (ca, .slice none 0 0)] ∧ OwnG elZ w6 (.slice (some ⟨b0, o0, none⟩) zn cz) Z) := ⟨HM5.out.push (i := 5) rfl o6 s6, HZ5.out.kept s6.1 (fun k hk => own_apart HZ5.out HO5.out (by decide) k hk)⟩; clear o6 s6)
        go_roundw
        case rel => exact ⟨t + 1, by go_num, by omega, by rw [HN.out]; exact H6.out.1, H6.out.2⟩
        case measure => simp [intOf]; omega
    · obtain rfl : t = zn := by omega
      have e1 : T.take t = T := List.take_of_length_le (by omega)
      have e2 : Z.take t = Z := List.take_of_length_le (by omega)
      rw [e1, e2] at hst
      have HX : Hid _ := hst
      have HZ : Hid (OwnG elZ wr (.slice oz t cz) Z) := hz
      clear hst hz
      go_wp2_with fail
      exact HQ.out _ _ _ _ _ _ _ _ _ _ _ _ _ _ _ _ _ _ _ _ _ _ _ _ HX.out HZ.out
end Go.Proofs.Ytopcbcdigllenaa

/- GcCollects: what is reached is still there. -/
namespace Go.Proofs.Ytopcbcdigllenaa
open Go.ChangeShapes Go.WideShapes Go.ChangeAt Go.RowKit

noncomputable def gc_thereC : Code := ((Try.f4.body.bind (blockOf 6)).getD .skip)

set_option maxRecDepth 100000 in
set_option maxHeartbeats 8000000 in
theorem gc_there (w wz : World) (p g q zn cz : Nat) (oz : Option Addr) (bs : List Blk) (T : List Ob) (Z : List Bool)
    (hzn : Z.length = zn) (hTn : T.length = zn) (hz2 : zn ≤ 2048) (hst : Hf w wz p g q 600 bs T) (hz : OwnG elZ wz (.slice oz zn cz) Z) (hob : ∀ (k : Nat) (x : Ob), T[k]? = some x → Z[k]? = some true → objAt bs x.at_ = some (x.cls, x.ws) ∧ x.at_ ≤ 4000 ∧ x.cls < 9223372036854775808 ∧ 0 ≤ x.at_)
    (K : Act → World → Prop) (Q : Exit → Act → World → Prop) (c0 c1 c2 c3 c4 c5 c6 c7 c8 c9 c10 c13 c14 c15 c16 c17 c18 c19 c20 c22 c23 c25 c26 c27 c28 c29 c30 c31 c32 c33 c34 c35 c36 c37 c38 c39 c40 c41 c42 c43 c44 c45 c46 c47 c48 c49 c50 c51 c52 c53 c54 c55 c56 c57 c58 c59 c60 c61 c62 c63 c64 c65 c66 c67 c68 c69 c70 c71 c72 c73 c74 c75 c76 c77 c78 c79 c80 c81 c82 c83 c84 c85 c86 c87 c88 c89 c90 c91 c92 c93 c94 c95 c96 c97 c98 c99 c100 c101 c102 c103 c104 c105 c106 c107 c108 c109 c110 c111 c112 c113 c114 c115 c116 c117 c118 c119 c120 c121 c122 c123 c124 c125 c126 c127 c128 c129 c130 c131 c132 c133 c134 c135 c136 c137 c138 c139 c140 c141 c142 c143 c144 c145 c146 c147 c148 c149 c150 c151 c152 c153 c154 c155 c156 c157 c158 c159 c160 c161 c162 c163 c164 c165 c166 c167 c168 c169 c170 c171 c172 c173 c174 c175 c176 c177 c178 c179 c180 c181 c182 c183 c184 c185 c186 c187 c188 c189 c190 c191 c192 c193 c194 c195 c196 c197 c198 c199 c200 c201 c202 c203 c204 c205 c206 c207 c208 c209 c210 c211 c212 c213 c214 c215 c216 c217 c218 c219 c220 c221 c222 c223 c224 c225 c226 c227 c228 c229 c230 c231 c232 c233 c234 c235 c236 c237 c238 c239 c240 c241 c242 c243 c244 c245 c246 c247 c248 c249 c250 c251 c252 c253 c254 c255 c256 c257 c258 c259 c260 c261 c262 c263 c264 c265 c266 c267 c268 c269 c270 c271 c272 c273 c274 c275 : Value)
    (hQ : ∀ (d10 d24 d25 d26 d27 d28 d205 d206 d207 d208 d209 d210 d211 d212 d213 d214 d215 d216 d217 d218 d219 d220 d221 d222 d223 d224 d225 d226 d227 d228 d229 d230 d231 d232 d233 d234 d235 d236 d237 d238 d239 d240 d241 d242 d243 d244 d245 d246 d247 d248 d249 d250 d251 d252 d253 d254 d255 d256 d257 d258 d259 d260 d261 d262 d263 d264 d265 d266 d267 d268 d269 d270 d271 d272 d273 d274 d275 : Value) (wc : World) , Fr no w wc → K { tmps := #[c0, c1, c2, c3, c4, c5, c6, c7, c8, c9, d10, .pointer (some ⟨p, 0, none⟩), .pointer (some ⟨q, 0, none⟩), c13, c14, c15, c16, c17, c18, c19, c20, .slice oz zn cz, c22, c23, d24, d25, d26, d27, d28, c29, c30, c31, c32, c33, c34, c35, c36, c37, c38, c39, c40, c41, c42, c43, c44, c45, c46, c47, c48, c49, c50, c51, c52, c53, c54, c55, c56, c57, c58, c59, c60, c61, c62, c63, c64, c65, c66, c67, c68, c69, c70, c71, c72, c73, c74, c75, c76, c77, c78, c79, c80, c81, c82, c83, c84, c85, c86, c87, c88, c89, c90, c91, c92, c93, c94, c95, c96, c97, c98, c99, c100, c101, c102, c103, c104, c105, c106, c107, c108, c109, c110, c111, c112, c113, c114, c115, c116, c117, c118, c119, c120, c121, c122, c123, c124, c125, c126, c127, c128, c129, c130, c131, c132, c133, c134, c135, c136, c137, c138, c139, c140, c141, c142, c143, c144, c145, c146, c147, c148, c149, c150, c151, c152, c153, c154, c155, c156, c157, c158, c159, c160, c161, c162, c163, c164, c165, c166, c167, c168, c169, c170, c171, c172, c173, c174, c175, c176, c177, c178, c179, c180, c181, c182, c183, c184, c185, c186, c187, c188, c189, c190, c191, c192, c193, c194, c195, c196, c197, c198, c199, c200, c201, c202, c203, c204, d205, d206, d207, d208, d209, d210, d211, d212, d213, d214, d215, d216, d217, d218, d219, d220, d221, d222, d223, d224, d225, d226, d227, d228, d229, d230, d231, d232, d233, d234, d235, d236, d237, d238, d239, d240, d241, d242, d243, d244, d245, d246, d247, d248, d249, d250, d251, d252, d253, d254, d255, d256, d257, d258, d259, d260, d261, d262, d263, d264, d265, d266, d267, d268, d269, d270, d271, d272, d273, d274, d275], defers := [] } wc) :
    Code.wp Try.prog gc_thereC (Exit.then K Q) { tmps := #[c0, c1, c2, c3, c4, c5, c6, c7, c8, c9, c10, .pointer (some ⟨p, 0, none⟩), .pointer (some ⟨q, 0, none⟩), c13, c14, c15, c16, c17, c18, c19, c20, .slice oz zn cz, c22, c23, .int .i64 0, c25, c26, c27, c28, c29, c30, c31, c32, c33, c34, c35, c36, c37, c38, c39, c40, c41, c42, c43, c44, c45, c46, c47, c48, c49, c50, c51, c52, c53, c54, c55, c56, c57, c58, c59, c60, c61, c62, c63, c64, c65, c66, c67, c68, c69, c70, c71, c72, c73, c74, c75, c76, c77, c78, c79, c80, c81, c82, c83, c84, c85, c86, c87, c88, c89, c90, c91, c92, c93, c94, c95, c96, c97, c98, c99, c100, c101, c102, c103, c104, c105, c106, c107, c108, c109, c110, c111, c112, c113, c114, c115, c116, c117, c118, c119, c120, c121, c122, c123, c124, c125, c126, c127, c128, c129, c130, c131, c132, c133, c134, c135, c136, c137, c138, c139, c140, c141, c142, c143, c144, c145, c146, c147, c148, c149, c150, c151, c152, c153, c154, c155, c156, c157, c158, c159, c160, c161, c162, c163, c164, c165, c166, c167, c168, c169, c170, c171, c172, c173, c174, c175, c176, c177, c178, c179, c180, c181, c182, c183, c184, c185, c186, c187, c188, c189, c190, c191, c192, c193, c194, c195, c196, c197, c198, c199, c200, c201, c202, c203, c204, c205, c206, c207, c208, c209, c210, c211, c212, c213, c214, c215, c216, c217, c218, c219, c220, c221, c222, c223, c224, c225, c226, c227, c228, c229, c230, c231, c232, c233, c234, c235, c236, c237, c238, c239, c240, c241, c242, c243, c244, c245, c246, c247, c248, c249, c250, c251, c252, c253, c254, c255, c256, c257, c258, c259, c260, c261, c262, c263, c264, c265, c266, c267, c268, c269, c270, c271, c272, c273, c274, c275], defers := [] } wz := by
  have HQ : Hid _ := hQ
  clear hQ
  have H0 : Hid (Hf w wz p g q 600 bs T ∧ OwnG elZ wz (.slice oz zn cz) Z) := ⟨hst, hz⟩
  have HOB : Hid _ := hob
  clear hst hz hob
  refine Code.wp_mono (Q := Exit.then K (fun _ _ _ => False)) (fun e a w h => by cases e <;> first | exact h | exact False.elim h) ?_
  conv => arg 2; whnf
  go_wp2_with fail
  go_loopw [24] (fun i wx => ∃ (t : Nat), i = .int .i64 (t : Int) ∧ t ≤ zn ∧ Hf w wx p g q 600 bs T ∧ OwnG elZ wx (.slice oz zn cz) Z) (fun i _ => zn - (intOf i).toNat)
  case atStart => exact ⟨0, rfl, Nat.zero_le _, H0.out⟩
  case round =>
    clear H0
    obtain ⟨t, rfl, htn, hst, hz⟩ := hrel
    obtain ⟨ad, cap, -, hc1, hrdo⟩ := hst.rr.cells
    have HST : Hid (Hf w wr p g q 600 bs T ∧ OwnG elZ wr (.slice oz zn cz) Z) := ⟨hst, hz⟩
    by_cases h2 : t < zn
    · have h2' : (t : Int) < (zn : Int) := by omega
      obtain ⟨x, hx⟩ : ∃ x, T[t]? = some x := ⟨_, List.getElem?_eq_getElem (by omega)⟩
      obtain ⟨z, hzt⟩ : ∃ z, Z[t]? = some z := ⟨_, List.getElem?_eq_getElem (by omega)⟩
      obtain ⟨b0, o0, hov, hcz⟩ := (hz.rd elZ_ok).at1 (u := .bool z) rfl rfl hzt
      subst hov
      have HX : Hid (T[t]? = some x) := hx
      rw [hTn] at hc1
      cases z with
      | false =>
        clear hst hz hx hzt hrdo
        go_wp2_with fail
        go_roundw
        case rel => exact ⟨t + 1, by go_num, by omega, HST.out⟩
        case measure => simp [intOf]; omega
      | true =>
        obtain ⟨q1, q2, q3, q4⟩ := HOB.out t x hx hzt
        obtain ⟨bb, off, had, hc2, -, -⟩ := hrdo.at3 hx
        subst had
        have WD := words_any wr p g bs hst.hp x.at_ (by omega)
        have hct : cntA bs x.at_ = (x.ws.length : Int) := by unfold cntA; rw [q1]
        have hcs : clsA bs x.at_ = (x.cls : Int) := by unfold clsA; rw [q1]
        have hbg : beg bs x.at_ = true := by rw [beg_obj, q1]; rfl
        rw [hct, hbg] at WD
        simp only [errA, if_true] at WD
        have HCL : Hid (∀ W, Hf w W p g q 600 bs T → Calls Try.prog 19 #[.pointer (some ⟨p, 0, none⟩), .int .i64 x.at_] W fun e w' => e = .returned (.tuple #[.int .i64 (x.cls : Int), .int .i64 0]) ∧ ∃ m, w' = W.drewN m) := fun W hW => by
          have := class_any W p g bs hW.hp x.at_ (by omega) (fun c ws hc => by rw [q1] at hc; simp only [Option.some.injEq, Prod.mk.injEq] at hc; omega)
          rw [hcs, hbg] at this
          simpa only [errA, if_true] using this
        have HRD : Hid (∀ W, Hf w W p g q 600 bs T → ∃ bb off cap sb, W.cell? ⟨q, 1, none⟩ = some (.slice (some ⟨bb, off, none⟩) zn cap) ∧ W.cell? ⟨bb, off + t * 3, none⟩ = some (.int .i64 x.at_) ∧ W.cell? ⟨bb, off + t * 3 + 1, none⟩ = some (.int .i64 (x.cls : Int)) ∧ W.cell? ⟨bb, off + t * 3 + 2, none⟩ = some (.slice sb x.ws.length x.ws.length)) := fun W hW => by
          obtain ⟨ad, cap, -, d1, d2⟩ := hW.rr.cells
          obtain ⟨bb, off, had, d3, d4, d5⟩ := d2.at3 HX.out
          subst had
          rw [hTn] at d1
          exact ⟨bb, off, cap, _, d1, d3, d4, d5⟩
        clear hst hz hx hzt hrdo q1 hct hcs hbg
        generalize x.ws.length = wl at *
        generalize x.cls = cc at *
        generalize x.at_ = xa at *
        go_wp2_with fail
        refine WD.mono ?_
        rintro e w7 ⟨rfl, m7, hw7⟩
        have HH7 : Hid (Hf w w7 p g q 600 bs T ∧ OwnG elZ w7 (.slice (some ⟨b0, o0, none⟩) zn cz) Z) := by
          rw [Hid, hw7]
          exact ⟨HST.out.1.keep ((Fr.refl no wr).drewN m7), HST.out.2.keep ((Fr.refl no wr).drewN m7)⟩
        have CL := HCL.out w7 HH7.out.1
        obtain ⟨bb7, off7, cap7, sb7, d1, d2, -, -⟩ := HRD.out w7 HH7.out.1
        clear hw7 WD
        go_wp2_with fail
        refine CL.mono ?_
        rintro e w8 ⟨rfl, m8, hw8⟩
        have HH8 : Hid (Hf w w8 p g q 600 bs T ∧ OwnG elZ w8 (.slice (some ⟨b0, o0, none⟩) zn cz) Z) := by
          rw [Hid, hw8]
          exact ⟨HH7.out.1.keep ((Fr.refl no w7).drewN m8), HH7.out.2.keep ((Fr.refl no w7).drewN m8)⟩
        obtain ⟨bb8, off8, cap8, sb8, f1, f2, f3, f4⟩ := HRD.out w8 HH8.out.1
        clear hw8 CL d1 d2
        go_wp2_with fail
        go_roundw
        case rel => exact ⟨t + 1, by go_num, by omega, HH8.out⟩
        case measure => simp [intOf]; omega
    · obtain rfl : t = zn := by omega
      rw [hTn] at hc1
      clear hst hz hrdo
      go_wp2_with fail
      exact HQ.out _ _ _ _ _ _ _ _ _ _ _ _ _ _ _ _ _ _ _ _ _ _ _ _ _ _ _ _ _ _ _ _ _ _ _ _ _ _ _ _ _ _ _ _ _ _ _ _ _ _ _ _ _ _ _ _ _ _ _ _ _ _ _ _ _ _ _ _ _ _ _ _ _ _ _ _ _ _ HST.out.1.fr
end Go.Proofs.Ytopcbcdigllenaa

/- Mark and Collect beside all that the statement has made. -/
namespace Go.Proofs.Ytopcbcdigllenaa
open Go.ChangeShapes Go.WideShapes Go.ChangeAt Go.RowKit

/-- What the function has is of these kinds. -/
theorem Jc.kind {ca cf ct : Nat} {fs ts js : List Int} {B : Nat → Prop} {w : World} {va vf vt : Value} (h : Jc ca cf ct fs ts js B w va vf vt) (k : Nat) (hb : B k) : ∃ (cs : Array Value) (t : TypeId), w.heap[k]? = some (.cells cs t (0, 0)) ∧ (t = 3 ∨ t = 52) := by
  rcases (h.b k).1 hb with e | e | e | e | e | e
  · exact ⟨_, 52, by rw [e]; exact h.ha, .inr rfl⟩
  · exact ⟨_, 52, by rw [e]; exact h.hf, .inr rfl⟩
  · exact ⟨_, 52, by rw [e]; exact h.ht, .inr rfl⟩
  · obtain ⟨c, hc⟩ := h.oa.tag e
    exact ⟨c, 3, hc, .inl rfl⟩
  · obtain ⟨c, hc⟩ := h.of.tag e
    exact ⟨c, 3, hc, .inl rfl⟩
  · obtain ⟨c, hc⟩ := h.ot.tag e
    exact ⟨c, 3, hc, .inl rfl⟩

structure Gs (w wr : World) (p g q : Nat) (bs : List Blk) (T : List Ob) (ca cf ct : Nat) (fs ts : List Int) (vf vt : Value) (va : Value) (js : List Int) (B : Nat → Prop) (rs : List (Value × List Int)) (v21 : Value) (Z : List Bool) : Prop where
  hf : Hf w wr p g q 600 bs T
  j : Jc ca cf ct fs ts js B wr va vf vt
  low : ∀ k, B k → w.heap.size ≤ k
  own : ∀ (i : Nat) (r : Value × List Int), rs[i]? = some r → OwnG elI wr r.1 r.2 ∧ ∀ k, r.1.ownBlock = some k → ¬ B k
  z : OwnG elZ wr v21 Z

section
variable {w wr w' : World} {p g q : Nat} {bs bs' : List Blk} {T : List Ob} {ca cf ct : Nat} {fs ts : List Int} {vf vt va va' : Value} {js js' : List Int} {B B' : Nat → Prop} {rs : List (Value × List Int)} {v21 : Value} {Z : List Bool}

theorem Gs.keep (h : Gs w wr p g q bs T ca cf ct fs ts vf vt va js B rs v21 Z) (f : Fr no wr w') : Gs w w' p g q bs T ca cf ct fs ts vf vt va js B rs v21 Z :=
  ⟨h.hf.keep f, h.j.kept f (fun _ _ x => x), h.low, fun i r hr => ⟨(h.own i r hr).1.keep f, (h.own i r hr).2⟩, h.z.keep f⟩

theorem Gs.not (h : Gs w wr p g q bs T ca cf ct fs ts vf vt va js B rs v21 Z) {k : Nat} {cs : Array Value} {t : TypeId} (hk : wr.heap[k]? = some (.cells cs t (0, 0))) (h1 : t ≠ 3) (h2 : t ≠ 52) : ¬ B k := fun hb => by
  obtain ⟨c, t', hc, ht⟩ := h.j.kind k hb
  rw [hk] at hc
  simp only [Option.some.injEq, Obj.cells.injEq] at hc
  rw [← hc.2.1] at ht
  rcases ht with e | e
  · exact h1 e
  · exact h2 e

/-- The arena turns, and what the function has. -/
theorem Gs.turn (h : Gs w wr p g q bs T ca cf ct fs ts vf vt va js B rs v21 Z) {S : Nat → Prop} (hp : HP w' p g bs') (f : Fr S wr w') (hS : ∀ k, S k → k = g ∨ B k) (hj : Jc ca cf ct fs ts js' B' w' va' vf vt) (hB : ∀ k, k < wr.heap.size → B' k → B k) : Gs w w' p g q bs' T ca cf ct fs ts vf vt va' js' B' rs v21 Z := by
  have hsz := h.hf.fr.size
  refine ⟨h.hf.both hp f (fun k hk => ?_), hj, fun k hk => ?_, fun i r hr => ⟨(h.own i r hr).1.kept f (fun k hk e => ?_), fun k hk e => ?_⟩, h.z.kept f (fun k hk e => ?_)⟩
  · rcases hS k hk with e | e
    · exact .inl e
    · obtain ⟨cs, t, h1, h2⟩ := h.j.kind k e
      exact .inr ⟨cs, t, h1, h2, h.low k e⟩
  · by_cases hlt : k < wr.heap.size
    · exact h.low k (hB k hlt hk)
    · omega
  · rcases hS k e with e | e
    · exact own_not (h.own i r hr).1 h.hf.hp.row (by decide) (by rw [hk, e])
    · exact (h.own i r hr).2 k hk e
  · exact (h.own i r hr).2 k hk (hB k ((h.own i r hr).1.lt hk) e)
  · rcases hS k e with e | e
    · exact own_not h.z h.hf.hp.row (by decide) (by rw [hk, e])
    · obtain ⟨c, hc⟩ := h.z.tag hk
      exact h.not hc (by decide) (by decide) e

theorem Gs.mark (h : Gs w wr p g q bs T ca cf ct fs ts vf vt va js B rs v21 Z) (hl : fs.length = ts.length) (hn : fs.length ≤ 100) {i : Nat} {v : Value} {A W : List Int} (hi : rs[i]? = some (v, A)) (hA : A.length ≤ 1000) (hN : js.length ≤ 100000)
    (hW : ∀ M : List Nat, (∀ a ∈ objsA 0 bs, M[a.toNat]? = some 2 ↔ Reach (cE fs ts) (objsA 0 bs) A a) → seenL M (objsA 0 bs) = W) :
    Calls Try.prog 26 #[.pointer (some ⟨p, 0, none⟩), v, .func (.func 23) #[] #[.pointer (some ⟨ca, 0, none⟩), .pointer (some ⟨cf, 0, none⟩), .pointer (some ⟨ct, 0, none⟩)]] wr fun e w' => ∃ v' va' js' B', e = .returned v' ∧ OwnG elI w' v' W ∧ js'.length = W.length ∧ Gs w w' p g q bs T ca cf ct fs ts vf vt va' (js ++ js') B' rs v21 Z := by
  have hol : (objsA 0 bs).length ≤ 2048 := by
    rw [objsA_eq, List.length_map]
    have h1 := (freesA_len 0 bs).2
    have h2 := h.hf.hp.len
    have e : siz bs = (flat bs).length := rfl
    omega
  have C := mark_any wr p g bs h.hf.hp v A (h.own i _ hi).1 (by omega) 23 _ (cE fs ts) (Jcc ca cf ct fs ts vf vt) 900000 (cRefs ca cf ct fs ts vf vt hl hn) js B ⟨va, h.j⟩ (by omega)
  refine C.mono ?_
  rintro e w' ⟨v', js', B', M, rfl, o', -, ⟨va', j'⟩, f', hB', hr, hc⟩
  have hs := hW M hr
  rw [hs] at o' hc
  exact ⟨v', va', js', B', rfl, o', hc, h.turn (h.hf.hp.kept f' (h.not h.hf.hp.hd (by decide) (by decide)) (h.not h.hf.hp.row (by decide) (by decide))) f' (fun k hk => .inr hk) j' hB'⟩

theorem Gs.collect (h : Gs w wr p g q bs T ca cf ct fs ts vf vt va js B rs v21 Z) (hl : fs.length = ts.length) (hn : fs.length ≤ 100) {i : Nat} {v : Value} {A W : List Int} (hi : rs[i]? = some (v, A)) (hA : A.length ≤ 1000) (hN : js.length ≤ 100000)
    (hW : ∀ M : List Nat, (∀ a ∈ objsA 0 bs, M[a.toNat]? = some 2 ↔ Reach (cE fs ts) (objsA 0 bs) A a) → seenL M (objsA 0 bs) = W) :
    Calls Try.prog 28 #[.pointer (some ⟨p, 0, none⟩), v, .func (.func 23) #[] #[.pointer (some ⟨ca, 0, none⟩), .pointer (some ⟨cf, 0, none⟩), .pointer (some ⟨ct, 0, none⟩)]] wr fun e w' => ∃ bs' va' js' B', e = .returned (.int .i64 (((objsA 0 bs).length - W.length : Nat) : Int)) ∧ js'.length = W.length ∧ Gs w w' p g q bs' T ca cf ct fs ts vf vt va' (js ++ js') B' rs v21 Z ∧ objsA 0 bs' = W ∧ (∀ y ∈ objL 0 bs, y.1 ∈ W → y ∈ objL 0 bs') := by
  have hol : (objsA 0 bs).length ≤ 2048 := by
    rw [objsA_eq, List.length_map]
    have h1 := (freesA_len 0 bs).2
    have h2 := h.hf.hp.len
    have e : siz bs = (flat bs).length := rfl
    omega
  have C := collect_any wr p g bs h.hf.hp v A (h.own i _ hi).1 (by omega) 23 _ (cE fs ts) (Jcc ca cf ct fs ts vf vt) 900000 (cRefs ca cf ct fs ts vf vt hl hn) js B ⟨va, h.j⟩ (by omega) (h.not h.hf.hp.hd (by decide) (by decide)) (h.not h.hf.hp.row (by decide) (by decide))
  refine C.mono ?_
  rintro e w' ⟨js', B', M, rfl, hp', ⟨va', j'⟩, f', hB', hr, hc⟩
  have hs := hW M hr
  rw [hs] at hc
  refine ⟨_, va', js', B', by rw [hs], hc, h.turn hp' f' (fun k hk => hk) j' hB', by rw [relP_objs, hs], fun y hy hyW => ?_⟩
  rw [relP_left, List.mem_filter]
  refine ⟨hy, ?_⟩
  rw [← hs, seenL_eq, List.mem_filter] at hyW
  exact hyW.2

theorem Gs.asked (h : Gs w wr p g q bs T ca cf ct fs ts vf vt va js B rs v21 Z) : ∃ o c, wr.cell? ⟨ca, 0, none⟩ = some (.slice o js.length c) := by
  obtain ⟨o, c, e⟩ := h.j.oa.form
  refine ⟨o, c, ?_⟩
  rw [← e]
  simp [World.cell?, h.j.ha]

theorem Gs.doc (h : Gs w wr p g q bs T ca cf ct fs ts vf vt va js B rs v21 Z) : ∃ ad cap, wr.cell? ⟨q, 1, none⟩ = some (.slice ad T.length cap) := by
  obtain ⟨ad, cap, -, h1, -⟩ := h.hf.rr.cells
  exact ⟨ad, cap, h1⟩
end

theorem Reach.within {E : Int → List Int} {O O' R : List Int} (h : ∀ b, Reach E O R b → b ∈ O') {a : Int} (ha : Reach E O R a) : Reach E O' R a := by
  induction ha with
  | root h1 h2 => exact .root h1 (h _ (.root h1 h2))
  | step h1 h2 h3 ih => exact .step ih h2 (h _ (.step h1 h2 h3))

/-- What is left is reached, and no more: a second time all of it stays. -/
theorem again_all {E : Int → List Int} {O R W : List Int} (hW : ∀ a, a ∈ W ↔ a ∈ O ∧ Reach E O R a) : ∀ M : List Nat, (∀ a ∈ W, M[a.toNat]? = some 2 ↔ Reach E W R a) → seenL M W = W := fun M hM => by
  rw [seenL_eq]
  refine List.filter_eq_self.2 (fun a ha => ?_)
  unfold seenB
  rw [(hM a ha).2 (((hW a).1 ha).2.within (fun b hb => (hW b).2 ⟨hb.obj, hb⟩))]
  rfl
end Go.Proofs.Ytopcbcdigllenaa

/- From what was made to what is asked. -/
namespace Go.Proofs.Ytopcbcdigllenaa
open Go.ChangeShapes Go.WideShapes Go.ChangeAt Go.RowKit

theorem Hf.base {w0 w wr : World} {p g q n : Nat} {bs : List Blk} {T : List Ob} (h : Hf w wr p g q n bs T) (f : Fr no w0 w) : Hf w0 wr p g q n bs T := by
  have := f.size
  exact ⟨h.hp, h.rr, ⟨by have := h.rb.low; omega, fun v hv k hk => by have := h.rb.v v hv k hk; omega, fun o ho k hk => by have := h.rb.b o ho k hk; omega⟩, by have := h.gb; omega, f.and h.fr⟩

theorem Cs.start {w0 w wr : World} {p g q : Nat} {bs : List Blk} {T : List Ob} {v : Value} {l : List Int} (h : Md w wr p g q bs T v l) (f : Fr no w0 w) : Cs w0 wr p g q bs T [(v, l)] [] := by
  have hs := f.size
  refine ⟨h.pl.hf.base f, fun i r hr => ?_, fun i r hr => ?_, fun i j r s hne h1 h2 => ?_, fun i c hc => by simp at hc, fun i j c d _ hc => by simp at hc⟩
  · cases i with
    | zero => simp at hr; subst hr; exact h.own
    | succ i => simp at hr
  · cases i with
    | zero => simp at hr; subst hr; exact fun k hk => by have := h.new k hk; omega
    | succ i => simp at hr
  · cases i with
    | zero =>
      cases j with
      | zero => exact absurd rfl hne
      | succ j => simp at h2
    | succ i => simp at h1

theorem atsO_objs {n : Nat} {bs : List Blk} {T : List Ob} (h : Linked n bs T) : atsO T = objsA 0 bs := by
  rw [objsA_eq, ← h.told, List.map_map]
  rfl

theorem Gs.begin {w wr : World} {p g q : Nat} {bs : List Blk} {T : List Ob} {v13 v17 v22 vf vt : Value} {L fs ts A W : List Int} {cf ct ca : Nat} {v21 : Value} {Z : List Bool} (h : Cs w wr p g q bs T [(v13, L), (vf, fs), (vt, ts), (v17, A), (.slice none 0 0, []), (v22, W)] [(cf, vf), (ct, vt), (ca, .slice none 0 0)]) (hz : OwnG elZ wr v21 Z) :
    Gs w wr p g q bs T ca cf ct fs ts vf vt (.slice none 0 0) [] (fun x => x = ca ∨ x = cf ∨ x = ct ∨ (Value.slice none 0 0).ownBlock = some x ∨ vf.ownBlock = some x ∨ vt.ownBlock = some x) [(v13, L), (v17, A), (v22, W)] v21 Z := by
  have b0 := h.box 0 _ rfl
  have b1 := h.box 1 _ rfl
  have b2 := h.box 2 _ rfl
  simp only at b0 b1 b2
  have nn : ∀ k, (Value.slice none 0 0).ownBlock ≠ some k := fun k e => by simp [Value.ownBlock] at e
  have key : ∀ (i : Nat) (r : Value × List Int), [(v13, L), (vf, fs), (vt, ts), (v17, A), ((.slice none 0 0 : Value), ([] : List Int)), (v22, W)][i]? = some r → i ≠ 1 → i ≠ 2 → OwnG elI wr r.1 r.2 ∧ ∀ k, r.1.ownBlock = some k → ¬ (k = ca ∨ k = cf ∨ k = ct ∨ (Value.slice none 0 0).ownBlock = some k ∨ vf.ownBlock = some k ∨ vt.ownBlock = some k) := fun i r hr h1 h2 => by
    have ho := h.own i r hr
    refine ⟨ho, fun k hk e => ?_⟩
    rcases e with e | e | e | e | e | e
    · exact own_not ho b2.1 (by decide) (by rw [hk, e])
    · exact own_not ho b0.1 (by decide) (by rw [hk, e])
    · exact own_not ho b1.1 (by decide) (by rw [hk, e])
    · exact nn k e
    · exact h.ap i 1 r _ h1 hr rfl k hk e
    · exact h.ap i 2 r _ h2 hr rfl k hk e
  refine ⟨h.hf, ⟨b2.1, b0.1, b1.1, OwnG.nil _ _, h.own 1 _ rfl, h.own 2 _ rfl, h.dif 2 0 _ _ (by decide) rfl rfl, h.dif 2 1 _ _ (by decide) rfl rfl, fun k hk => absurd hk (nn k), fun k hk => absurd hk (nn k), fun x => Iff.rfl⟩, fun k e => ?_, fun i r hr => ?_, hz⟩
  · rcases e with e | e | e | e | e | e
    · rw [e]; exact b2.2
    · rw [e]; exact b0.2
    · rw [e]; exact b1.2
    · exact absurd e (nn k)
    · exact h.new 1 _ rfl k e
    · exact h.new 2 _ rfl k e
  · match i, hr with
    | 0, hr => exact key 0 r (by simpa using hr) (by decide) (by decide)
    | 1, hr => exact key 3 r (by simpa using hr) (by decide) (by decide)
    | 2, hr => exact key 5 r (by simpa using hr) (by decide) (by decide)

/-- What is wanted is what is reached. -/
theorem want_spec {n : Nat} {bs : List Blk} {T : List Ob} (hl : Linked n bs T) {E : Int → List Int} {R : List Int} {Z : List Bool} (hz : Z.length = T.length) (h : ∀ (k : Nat) (x : Ob), T[k]? = some x → (Z[k]? = some true ↔ Reach E (atsO T) R x.at_)) :
    (∀ M : List Nat, (∀ a ∈ objsA 0 bs, M[a.toNat]? = some 2 ↔ Reach E (objsA 0 bs) R a) → seenL M (objsA 0 bs) = wantZ T Z) ∧ (∀ a, a ∈ wantZ T Z ↔ a ∈ objsA 0 bs ∧ Reach E (objsA 0 bs) R a) := by
  classical
  have e := atsO_objs hl
  have hw : wantZ T Z = (atsO T).filter (fun a => decide (Reach E (atsO T) R a)) := wantZ_filter T Z _ hz (fun k x hx => by rw [h k x hx]; simp)
  rw [e] at hw
  refine ⟨fun M hM => ?_, fun a => ?_⟩
  · rw [hw, seenL_eq]
    apply List.filter_congr
    intro a ha
    rw [Bool.eq_iff_iff]
    unfold seenB
    rw [beq_iff_eq, hM a ha, decide_eq_true_eq]
  · rw [hw, List.mem_filter, decide_eq_true_eq]
end Go.Proofs.Ytopcbcdigllenaa

/- What came in: rows of edges. -/
namespace Go.Proofs.Ytopcbcdigllenaa
open Go.ChangeShapes Go.WideShapes Go.ChangeAt Go.RowKit Go.Deep

theorem Try.cells56 : Try.prog.cellsOf 56 = 2 := by kernel_rfl

section
variable {H : Type} {enc : TypeId × Value → H} {w : World} {spare : Nat → Bool} {held : Bool}

theorem open_pair {fuel : Nat} {cs : List Value} {y : DataW H × List MemPlace} (h : DataW.trod enc Try.prog w 0 spare held fuel 56 cs = some y) (hl : cs.length = 2) :
    ∃ z0 z1 : Int, cs = [.int .u8 z0, .int .u8 z1] ∧ (Lit.int .u8 z0).wf = true ∧ (Lit.int .u8 z1).wf = true := by
  obtain ⟨xs, n, _, rfl, _, hxl, hf⟩ := DataW.trod_struct Try.underlying56 h
  obtain ⟨v0, v1, rfl⟩ : ∃ v0 v1, cs = [v0, v1] := by
    match cs, hl with
    | [v0, v1], _ => exact ⟨v0, v1, rfl⟩
  obtain ⟨x0, x1, rfl⟩ : ∃ x0 x1, xs = [x0, x1] := by
    match xs, hxl with
    | [v0, v1], _ => exact ⟨v0, v1, rfl⟩
  have g0 : DataW.trod enc Try.prog w 0 spare held n 5 ((([v0, v1] : List Value).drop 0).take (Try.prog.cellsOf 5)) = some x0 := hf 0 _ rfl
  rw [Try.cells5] at g0
  have g1 : DataW.trod enc Try.prog w 0 spare held n 5 ((([v0, v1] : List Value).drop 1).take (Try.prog.cellsOf 5)) = some x1 := hf 1 _ rfl
  rw [Try.cells5] at g1
  obtain ⟨z0, e0, y0, w0⟩ := DataW.trod_int Try.underlying5 g0
  obtain ⟨z1, e1, y1, w1⟩ := DataW.trod_int Try.underlying5 g1
  simp only [List.drop_succ_cons, List.drop_zero, List.take_succ_cons, List.take_zero, List.cons.injEq, and_true] at e0 e1
  subst e0 e1
  exact ⟨z0, z1, rfl, w0, w1⟩

theorem open_edges {v : Value} {d : DataW H} {ps : List MemPlace} (hv : ∃ a len cap, v = .slice a len cap) (h : DataW.Trod enc Try.prog w 0 spare held 51 v d ps) : ∃ L, (∀ x ∈ L, x.1 < 256 ∧ x.2 < 256) ∧ RdG elE w v L := by
  obtain ⟨a0, len0, cap0, rfl⟩ := hv
  obtain ⟨fuel, h⟩ := h
  rcases open_slice Try.underlying51 h with ⟨e, _⟩ | ⟨a, len, cap, m, n, D, Pl, e, _, hl, hm, hmm, _, hall⟩
  · have e' : Value.slice a0 len0 cap0 = .slice none 0 0 := by simpa [Value.cells] using e
    rw [e']
    exact ⟨[], fun c hc => by simp at hc, none, 0, rfl, Nat.zero_le _, Nat.zero_le _, fun i x hx => by simp at hx⟩
  · have e' : Value.slice a0 len0 cap0 = .slice (some a) len cap := by simpa [Value.cells] using e
    rw [e']
    cases hz : len with
    | zero => exact ⟨[], fun c hc => by simp at hc, some a, cap, rfl, Nat.zero_le _, hm, fun i x hx => by simp at hx⟩
    | succ k =>
      rw [← hz]
      have hlm : len ≤ m := by rw [hmm]; split <;> omega
      obtain ⟨b, o, spot⟩ := a
      have each : ∀ i, i < len → ∃ cs n y, DataW.trod enc Try.prog w 0 spare held n 56 cs = some y ∧ cs.length = 2 ∧ ∀ j, j < 2 → w.cell? (((⟨b, o, spot⟩ : Addr).add (i * 2)).add j) = cs[j]? := by
        intro i hi
        obtain ⟨cs', hcs, ht⟩ := hall i (by omega)
        rw [Try.cells56] at hcs
        obtain ⟨_, h2, h3⟩ := World.cells?_some hcs
        exact ⟨cs', n, _, ht, h2, h3⟩
      have hspot : spot = none := by
        obtain ⟨cs, _, _, _, hl2, hc⟩ := each 0 (by omega)
        have h0 := hc 0 (by omega)
        rw [List.getElem?_eq_getElem (by omega)] at h0
        simpa [Addr.add] using World.cell?_spot h0
      subst hspot
      obtain ⟨L, hL, hP⟩ := list_of (fun i (x : Nat × Nat) => (x.1 < 256 ∧ x.2 < 256) ∧ ∀ (j : Nat) (u : Value), (elE.f x)[j]? = some u → w.cell? ⟨b, o + i * 2 + j, none⟩ = some u) len (fun i hi => by
        obtain ⟨cs, n, y, ht, hl2, hc⟩ := each i hi
        obtain ⟨z0, z1, rfl, w0, w1⟩ := open_pair ht hl2
        have q0 : 0 ≤ z0 ∧ z0 ≤ 255 := by simpa [Lit.wf, IntKind.min, IntKind.max, IntKind.signed, IntKind.bits] using w0
        have q1 : 0 ≤ z1 ∧ z1 ≤ 255 := by simpa [Lit.wf, IntKind.min, IntKind.max, IntKind.signed, IntKind.bits] using w1
        refine ⟨(z0.toNat, z1.toNat), ⟨by simp only; omega, by simp only; omega⟩, fun j u hj => ?_⟩
        have hjl : j < 2 := by
          have := (List.getElem?_eq_some_iff.1 hj).1
          simpa [elE] using this
        have c0 := hc j hjl
        rw [Addr.add_lit, Addr.add_lit] at c0
        rw [c0, ← hj]
        have e0 : ((z0.toNat : Nat) : Int) = z0 := by omega
        have e1 : ((z1.toNat : Nat) : Int) = z1 := by omega
        simp only [elE, e0, e1])
      refine ⟨L, fun x hx => ?_, some ⟨b, o, none⟩, cap, by rw [hL], by omega, hm, fun i x h => ⟨b, o, rfl, (hP i x h).2⟩⟩
      obtain ⟨i, hi⟩ := List.mem_iff_getElem?.1 hx
      exact (hP i x hi).1
end
end Go.Proofs.Ytopcbcdigllenaa

