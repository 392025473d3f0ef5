/- The statement on all words: an object is released. -/
import Derived.Test.YtmoejipmiicgpaaW0
namespace Go.Proofs.Ytmoejipmiicgpaa
open Go.ChangeShapes Go.WideShapes Go.ChangeAt Go.RowKit

set_option maxRecDepth 100000 in
set_option maxHeartbeats 8000000 in
theorem whole_false (w wr : World) (p g n1 t sz n7 cl ln cv b0 o0 : Nat) (ol : Option Addr) (bs : List Blk) (ls : List Int)
    (hln7 : ls.length = n7) (htn : t < ln) (hbig : ln ≤ 80) (hlt2 : n7 ≤ t) (hwh : Whole n1 bs ls) (hab : AB w wr p g bs (.slice ol n7 cl) ls) (HG : Hid (w.heap.size ≤ g))
    (y q4 : Nat) (e4 : (y : Int) / 4 = (q4 : Int)) (hy4 : q4 < 20000) (hpos : 0 < n7) (hcy : wr.cell? ⟨b0, o0 + t, none⟩ = some (.int .u16 (y : Int)))
    (K : Act → World → Prop) (Q : Exit → Act → World → Prop) (c0 c2 c3 c4 c10 c11 c12 c13 c14 c15 c16 c17 c18 c19 c20 c21 c22 c23 c24 c25 c26 c27 c28 c29 c30 c31 c32 c33 c34 c35 c36 c37 c38 c39 c40 c41 c42 c43 c44 c45 c46 c47 c48 c49 c50 c51 c52 c53 c54 c56 c57 c58 c59 c60 c61 c62 c63 c64 c65 c66 c67 c68 c69 c70 c71 c72 c73 c74 c75 c76 c77 c78 c79 c80 c81 c82 c83 c84 c85 c86 c87 c88 c89 c90 c91 c92 c93 c94 c95 c96 c97 c98 c99 c100 c101 c102 c103 c104 c105 c106 c107 c108 c109 c110 c111 c112 c113 c114 c115 c116 c117 c118 c119 c120 c121 c122 c123 c124 c125 c126 c127 c128 c129 c130 c131 c132 c133 c134 c135 c136 c137 c138 c139 c140 c141 c142 c143 c144 c145 c146 c147 c148 c149 c150 c151 c152 c153 c154 c155 c156 c157 c158 c159 c160 c161 c162 c163 c164 c165 c166 c167 c168 c169 c170 c171 c172 c173 c174 c175 c176 c177 c178 c179 c180 c181 c182 c183 c184 c185 c186 c187 c188 c189 c190 c191 c192 c193 c194 c195 c196 c197 c198 c199 c200 c201 c202 c203 c204 c205 c206 c207 c208 c209 c210 c211 c212 c213 c214 c215 c216 c217 c218 c219 c220 c221 c222 c223 c224 c225 c226 c227 c228 c229 c230 c231 c232 c233 c234 c235 c236 c237 c238 c239 c240 : Value)
    (hQ : ∀ (d7 d14 d88 d89 d90 d91 d92 d93 d94 d95 d96 d97 d98 d99 d100 d101 d102 d103 d104 d105 d106 d107 d108 d109 d110 d111 d112 d113 d114 d115 d116 d117 d118 d119 d120 d121 : Value) (wc : World) (bs' : List Blk) (ls' : List Int), Whole n1 bs' ls' → AB w wc p g bs' d7 ls' → ls'.length ≤ t + 1 → K { tmps := #[c0, .slice (some ⟨b0, o0, none⟩) ln cv, c2, c3, c4, .int .i64 (n1 : Int), .pointer (some ⟨p, 0, none⟩), d7, .int .i64 (t : Int), .int .i64 (sz : Int), c10, c11, c12, c13, d14, c15, c16, c17, c18, c19, c20, c21, c22, c23, c24, c25, c26, c27, c28, c29, c30, c31, c32, c33, c34, c35, c36, c37, c38, c39, c40, c41, c42, c43, c44, c45, c46, c47, c48, c49, c50, c51, c52, c53, c54, .bool false, c56, c57, c58, c59, c60, c61, c62, c63, c64, c65, c66, c67, c68, c69, c70, c71, c72, c73, c74, c75, c76, c77, c78, c79, c80, c81, c82, c83, c84, c85, c86, c87, d88, d89, d90, d91, d92, d93, d94, d95, d96, d97, d98, d99, d100, d101, d102, d103, d104, d105, d106, d107, d108, d109, d110, d111, d112, d113, d114, d115, d116, d117, d118, d119, d120, d121, c122, c123, c124, c125, c126, c127, c128, c129, c130, c131, c132, c133, c134, c135, c136, c137, c138, c139, c140, c141, c142, c143, c144, c145, c146, c147, c148, c149, c150, c151, c152, c153, c154, c155, c156, c157, c158, c159, c160, c161, c162, c163, c164, c165, c166, c167, c168, c169, c170, c171, c172, c173, c174, c175, c176, c177, c178, c179, c180, c181, c182, c183, c184, c185, c186, c187, c188, c189, c190, c191, c192, c193, c194, c195, c196, c197, c198, c199, c200, c201, c202, c203, c204, c205, c206, c207, c208, c209, c210, c211, c212, c213, c214, c215, c216, c217, c218, c219, c220, c221, c222, c223, c224, c225, c226, c227, c228, c229, c230, c231, c232, c233, c234, c235, c236, c237, c238, c239, c240], defers := [] } wc) :
    Code.wp Try.prog wIf (Exit.then K Q) { tmps := #[c0, .slice (some ⟨b0, o0, none⟩) ln cv, c2, c3, c4, .int .i64 (n1 : Int), .pointer (some ⟨p, 0, none⟩), .slice ol n7 cl, .int .i64 (t : Int), .int .i64 (sz : Int), c10, c11, c12, c13, c14, c15, c16, c17, c18, c19, c20, c21, c22, c23, c24, c25, c26, c27, c28, c29, c30, c31, c32, c33, c34, c35, c36, c37, c38, c39, c40, c41, c42, c43, c44, c45, c46, c47, c48, c49, c50, c51, c52, c53, c54, .bool false, c56, c57, c58, c59, c60, c61, c62, c63, c64, c65, c66, c67, c68, c69, c70, c71, c72, c73, c74, c75, c76, c77, c78, c79, c80, c81, c82, c83, c84, c85, c86, c87, c88, c89, c90, c91, c92, c93, c94, c95, c96, c97, c98, c99, c100, c101, c102, c103, c104, c105, c106, c107, c108, c109, c110, c111, c112, c113, c114, c115, c116, c117, c118, c119, c120, c121, c122, c123, c124, c125, c126, c127, c128, c129, c130, c131, c132, c133, c134, c135, c136, c137, c138, c139, c140, c141, c142, c143, c144, c145, c146, c147, c148, c149, c150, c151, c152, c153, c154, c155, c156, c157, c158, c159, c160, c161, c162, c163, c164, c165, c166, c167, c168, c169, c170, c171, c172, c173, c174, c175, c176, c177, c178, c179, c180, c181, c182, c183, c184, c185, c186, c187, c188, c189, c190, c191, c192, c193, c194, c195, c196, c197, c198, c199, c200, c201, c202, c203, c204, c205, c206, c207, c208, c209, c210, c211, c212, c213, c214, c215, c216, c217, c218, c219, c220, c221, c222, c223, c224, c225, c226, c227, c228, c229, c230, c231, c232, c233, c234, c235, c236, c237, c238, c239, c240], defers := [] } wr := by
  have HX : Hid (Whole n1 bs ls ∧ AB w wr p g bs (.slice ol n7 cl) ls) := ⟨hwh, hab⟩
  have hti' : (t : Int) < (ln : Int) := by omega
  clear hwh hab
  refine Code.wp_mono (Q := Exit.then K (fun _ _ _ => False)) (fun e a w h => by cases e <;> first | exact h | exact False.elim h) ?_
  conv => arg 2; whnf
  obtain ⟨gg, oo, hol⟩ : ∃ gg oo, ol = some ⟨gg, oo, none⟩ := by
    rcases HX.out.2.own with ⟨h0, h1⟩ | ⟨gg, oo, lc, cur, hu, _⟩
    · rw [h1] at hln7
      simp at hln7
      omega
    · simp only [Value.slice.injEq] at hu
      exact ⟨gg, oo, hu.1⟩
  subst hol
  have hzl : ¬ ((n7 : Int) = 0) := by omega
  have ey : Int.tmod (q4 : Int) (n7 : Int) = ((q4 % n7 : Nat) : Int) := by
    rw [Int.tmod_eq_emod_of_nonneg (by omega)]
    exact (Int.natCast_emod q4 n7).symm
  have hkk : q4 % n7 < n7 := Nat.mod_lt _ (by omega)
  generalize q4 % n7 = kk at *
  obtain ⟨x, hx⟩ : ∃ x, ls[kk]? = some x := ⟨_, List.getElem?_eq_getElem (by omega)⟩
  obtain ⟨fb, fw, fn⟩ := HX.out.1.free hx
  have hxle : x ≤ 9223372036854775807 := by
    obtain ⟨pre, c, ws, post, he, hx1⟩ := beg_split fb
    have hl := HX.out.2.hp.len
    rw [he] at hl
    have := siz_le hl
    omega
  have RL := release_any wr p g bs HX.out.2.hp x hxle
  rw [fb] at RL
  simp only [errA, if_true] at RL
  have RL2 : Hid (∀ w5, HP w5 p g (freeB bs x) → Calls Try.prog 13 #[.pointer (some ⟨p, 0, none⟩), .int .i64 x] w5 fun e w' => e = .returned (.int .i64 111) ∧ HP w' p g (freeB bs x) ∧ Fr (fun k => k = g) w5 w') := fun w5 h5 => by
    have := release_any w5 p g _ h5 x hxle
    rw [fn, free_none fn] at this
    exact this
  have HFW : Hid (Whole n1 (freeB bs x) (ls.take kk ++ ls.drop (kk + 1))) := fw
  have HLX : Hid (∀ wz, AB w wz p g (freeB bs x) (.slice (some ⟨gg, oo, none⟩) n7 cl) ls ∨ AB w wz p g bs (.slice (some ⟨gg, oo, none⟩) n7 cl) ls → wz.cell? ⟨gg, oo + kk, none⟩ = some (.int .i64 x)) := fun wz h => by
    have hg := cg_get elI_ok ls kk x hx 0 (.int .i64 x) rfl
    simp only [elI, Nat.mul_one, Nat.add_zero] at hg
    rcases h with h | h
    · exact h.own.cells kk _ hg
    · exact h.own.cells kk _ hg
  have hlx := HLX.out wr (.inr HX.out.2)
  have hkki : (kk : Int) < (n7 : Int) := by omega
  clear fb fw fn hx
  go_wp2_with fail
  refine RL.mono ?_
  rintro e w5 ⟨rfl, h5, f5⟩
  have HA5 : Hid (AB w w5 p g (freeB bs x) (.slice (some ⟨gg, oo, none⟩) n7 cl) ls) := HX.out.2.turn HG.out h5 f5
  have hlx5 := HLX.out w5 (.inl HA5.out)
  have RL5 := RL2.out w5 h5
  clear h5 f5 RL hlx
  go_wp2_with fail
  refine RL5.mono ?_
  rintro e w6 ⟨rfl, h6, f6⟩
  have HA6 : Hid (AB w w6 p g (freeB bs x) (.slice (some ⟨gg, oo, none⟩) n7 cl) ls) := HA5.out.turn HG.out h6 f6
  clear h6 f6 RL5 hlx5 HA5 HLX RL2
  obtain ⟨a5, n5, c5, sv1, sv2, e5, r1, r2, q1, q2, s1, FIN⟩ := drop_one HA6.out kk (by rw [hln7]; exact hkk) (by omega)
  have HFIN : Hid (∀ v1 w1, OwnG elI w1 v1 ([] ++ ls.take kk) → Sp (.slice none 0 0) w6.drew v1 w1 → Src Try.prog 1 52 sv2 (ls.drop (kk + 1)).length (cg elI (ls.drop (kk + 1))) w1 ∧ ∀ v2 w2, OwnG elI w2 v2 (([] ++ ls.take kk) ++ ls.drop (kk + 1)) → Sp v1 w1 v2 w2 → AB w w2 p g (freeB bs x) v2 (ls.take kk ++ ls.drop (kk + 1))) := FIN
  have HS1 : Hid (Src Try.prog 1 52 sv1 (ls.take kk).length (cg elI (ls.take kk)) w6.drew) := s1
  clear FIN s1 e5
  have hla : ([] : List Int).length + (ls.take kk).length ≤ 1000000 := by simp <;> omega
  have hlb2 : ([] ++ ls.take kk).length + (ls.drop (kk + 1)).length ≤ 1000000 := by simp <;> omega
  have hwp : IntKind.i64.wrap ((kk : Int) + 1) = (kk : Int) + 1 := by rw [IntKind.wrap_i64]; omega
  go_wp2_with fail
  go_region_law (first | (refine step_apdG elI_ok w6.drew rfl rfl (.const (.slice none 0 0)) (.tmp 115) rfl (.slice none 0 0) [] (by kernel_rfl) (OwnG.nil _ _) sv1 (by kernel_rfl) (ls.take kk) HS1.out hla ?_; intro v1 w7 o7 s7; have HO7 : Hid (OwnG elI w7 v1 ([] ++ ls.take kk)) := o7; have HS7 := HFIN.out v1 w7 o7 s7; clear o7 s7) | (refine step_apdG elI_ok w7 rfl rfl (.tmp 116) (.tmp 120) rfl v1 ([] ++ ls.take kk) (by kernel_rfl) HO7.out sv2 (by kernel_rfl) (ls.drop (kk + 1)) HS7.1 hlb2 ?_; intro v2 w8 o8 s8; have HA8 : Hid (AB w w8 p g (freeB bs x) v2 (ls.take kk ++ ls.drop (kk + 1))) := HS7.2 v2 w8 o8 s8; clear o8 s8))
  clear r1 r2 q1 q2 HS7 HFIN HS1 HO7 hla hlb2 hwp
  go_wp2_with fail
  exact hQ _ _ _ _ _ _ _ _ _ _ _ _ _ _ _ _ _ _ _ _ _ _ _ _ _ _ _ _ _ _ _ _ _ _ _ _ _ _ _ HFW.out HA8.out (by simp; omega)
end Go.Proofs.Ytmoejipmiicgpaa
