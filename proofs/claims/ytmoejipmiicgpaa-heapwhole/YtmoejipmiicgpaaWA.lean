/- The statement on all words: an object is asked for. -/
import Derived.Test.YtmoejipmiicgpaaW0
namespace Go.Proofs.Ytmoejipmiicgpaa
open Go.ChangeShapes Go.WideShapes Go.ChangeAt Go.RowKit

set_option maxRecDepth 100000 in
set_option maxHeartbeats 8000000 in
theorem whole_true (w wr : World) (p g n1 t sz n7 cl ln cv b0 o0 : Nat) (ol : Option Addr) (bs : List Blk) (ls : List Int)
    (hsz : sz < 20) (h300 : n1 < 300) (hln7 : ls.length = n7) (htn : t < ln) (hbig : ln ≤ 80) (hlt2 : n7 ≤ t) (hwh : Whole n1 bs ls) (hab : AB w wr p g bs (.slice ol n7 cl) ls) (HG : Hid (w.heap.size ≤ g))
    (K : Act → World → Prop) (Q : Exit → Act → World → Prop) (c0 c2 c3 c4 c10 c11 c12 c13 c14 c15 c16 c17 c18 c19 c20 c21 c22 c23 c24 c25 c26 c27 c28 c29 c30 c31 c32 c33 c34 c35 c36 c37 c38 c39 c40 c41 c42 c43 c44 c45 c46 c47 c48 c49 c50 c51 c52 c53 c54 c56 c57 c58 c59 c60 c61 c62 c63 c64 c65 c66 c67 c68 c69 c70 c71 c72 c73 c74 c75 c76 c77 c78 c79 c80 c81 c82 c83 c84 c85 c86 c87 c88 c89 c90 c91 c92 c93 c94 c95 c96 c97 c98 c99 c100 c101 c102 c103 c104 c105 c106 c107 c108 c109 c110 c111 c112 c113 c114 c115 c116 c117 c118 c119 c120 c121 c122 c123 c124 c125 c126 c127 c128 c129 c130 c131 c132 c133 c134 c135 c136 c137 c138 c139 c140 c141 c142 c143 c144 c145 c146 c147 c148 c149 c150 c151 c152 c153 c154 c155 c156 c157 c158 c159 c160 c161 c162 c163 c164 c165 c166 c167 c168 c169 c170 c171 c172 c173 c174 c175 c176 c177 c178 c179 c180 c181 c182 c183 c184 c185 c186 c187 c188 c189 c190 c191 c192 c193 c194 c195 c196 c197 c198 c199 c200 c201 c202 c203 c204 c205 c206 c207 c208 c209 c210 c211 c212 c213 c214 c215 c216 c217 c218 c219 c220 c221 c222 c223 c224 c225 c226 c227 c228 c229 c230 c231 c232 c233 c234 c235 c236 c237 c238 c239 c240 : Value)
    (hQ : ∀ (d4 d7 d10 d11 d12 d13 d56 d57 d58 d59 d60 d61 d62 d63 d64 d65 d66 d67 d68 d69 d70 d71 d72 d73 d74 d75 d76 d77 d78 d79 d80 d81 d82 d83 d84 d85 d86 d87 : Value) (wc : World) (bs' : List Blk) (ls' : List Int), Whole n1 bs' ls' → AB w wc p g bs' d7 ls' → ls'.length ≤ t + 1 → K { tmps := #[c0, .slice (some ⟨b0, o0, none⟩) ln cv, c2, c3, d4, .int .i64 (n1 : Int), .pointer (some ⟨p, 0, none⟩), d7, .int .i64 (t : Int), .int .i64 (sz : Int), d10, d11, d12, d13, c14, c15, c16, c17, c18, c19, c20, c21, c22, c23, c24, c25, c26, c27, c28, c29, c30, c31, c32, c33, c34, c35, c36, c37, c38, c39, c40, c41, c42, c43, c44, c45, c46, c47, c48, c49, c50, c51, c52, c53, c54, .bool true, d56, d57, d58, d59, d60, d61, d62, d63, d64, d65, d66, d67, d68, d69, d70, d71, d72, d73, d74, d75, d76, d77, d78, d79, d80, d81, d82, d83, d84, d85, d86, d87, c88, c89, c90, c91, c92, c93, c94, c95, c96, c97, c98, c99, c100, c101, c102, c103, c104, c105, c106, c107, c108, c109, c110, c111, c112, c113, c114, c115, c116, c117, c118, c119, c120, c121, c122, c123, c124, c125, c126, c127, c128, c129, c130, c131, c132, c133, c134, c135, c136, c137, c138, c139, c140, c141, c142, c143, c144, c145, c146, c147, c148, c149, c150, c151, c152, c153, c154, c155, c156, c157, c158, c159, c160, c161, c162, c163, c164, c165, c166, c167, c168, c169, c170, c171, c172, c173, c174, c175, c176, c177, c178, c179, c180, c181, c182, c183, c184, c185, c186, c187, c188, c189, c190, c191, c192, c193, c194, c195, c196, c197, c198, c199, c200, c201, c202, c203, c204, c205, c206, c207, c208, c209, c210, c211, c212, c213, c214, c215, c216, c217, c218, c219, c220, c221, c222, c223, c224, c225, c226, c227, c228, c229, c230, c231, c232, c233, c234, c235, c236, c237, c238, c239, c240], defers := [] } wc) :
    Code.wp Try.prog wIf (Exit.then K Q) { tmps := #[c0, .slice (some ⟨b0, o0, none⟩) ln cv, c2, c3, c4, .int .i64 (n1 : Int), .pointer (some ⟨p, 0, none⟩), .slice ol n7 cl, .int .i64 (t : Int), .int .i64 (sz : Int), c10, c11, c12, c13, c14, c15, c16, c17, c18, c19, c20, c21, c22, c23, c24, c25, c26, c27, c28, c29, c30, c31, c32, c33, c34, c35, c36, c37, c38, c39, c40, c41, c42, c43, c44, c45, c46, c47, c48, c49, c50, c51, c52, c53, c54, .bool true, c56, c57, c58, c59, c60, c61, c62, c63, c64, c65, c66, c67, c68, c69, c70, c71, c72, c73, c74, c75, c76, c77, c78, c79, c80, c81, c82, c83, c84, c85, c86, c87, c88, c89, c90, c91, c92, c93, c94, c95, c96, c97, c98, c99, c100, c101, c102, c103, c104, c105, c106, c107, c108, c109, c110, c111, c112, c113, c114, c115, c116, c117, c118, c119, c120, c121, c122, c123, c124, c125, c126, c127, c128, c129, c130, c131, c132, c133, c134, c135, c136, c137, c138, c139, c140, c141, c142, c143, c144, c145, c146, c147, c148, c149, c150, c151, c152, c153, c154, c155, c156, c157, c158, c159, c160, c161, c162, c163, c164, c165, c166, c167, c168, c169, c170, c171, c172, c173, c174, c175, c176, c177, c178, c179, c180, c181, c182, c183, c184, c185, c186, c187, c188, c189, c190, c191, c192, c193, c194, c195, c196, c197, c198, c199, c200, c201, c202, c203, c204, c205, c206, c207, c208, c209, c210, c211, c212, c213, c214, c215, c216, c217, c218, c219, c220, c221, c222, c223, c224, c225, c226, c227, c228, c229, c230, c231, c232, c233, c234, c235, c236, c237, c238, c239, c240], defers := [] } wr := by
  have AL := alloc_nat wr p g bs hab.hp 1 sz (by decide)
  have HX : Hid (Whole n1 bs ls ∧ AB w wr p g bs (.slice ol n7 cl) ls) := ⟨hwh, hab⟩
  clear hwh hab
  conv => arg 2; whnf
  cases hr : roomAt sz bs with
  | none =>
    rw [hr, (roomAt_none hr).2] at AL
    simp only [rmA, errM, Option.isSome_none, Bool.false_eq_true, if_false] at AL
    have HFS : Hid (∀ x ∈ freesA 0 bs, x.2 < (sz : Int) + 2) := fun x hx => by
      obtain ⟨⟨j, h1, h2⟩, -⟩ := freesA_mem hx
      have := (roomAt_none hr).1 j h1
      omega
    clear hr
    go_wp2_with fail
    refine AL.mono ?_
    rintro e w5 ⟨rfl, h5, f5⟩
    have H5 : Hid (AB w w5 p g bs (.slice ol n7 cl) ls) := HX.out.2.turn HG.out h5 f5
    have FA := free_any w5 p g bs h5
    clear h5 f5 AL
    go_wp2_with fail
    refine FA.mono ?_
    rintro e w6 ⟨v6, rfl, o6, n6, f6⟩
    obtain ⟨of6, cf6, hv6⟩ := o6.form
    subst hv6
    have H6 : Hid (AB w w6 p g bs (.slice ol n7 cl) ls ∧ RdG elB w6 (.slice of6 (freesA 0 bs).length cf6) (freesA 0 bs)) := ⟨H5.out.more f6, o6.rd elB_ok⟩
    clear o6 n6 f6 FA H5
    have hfb : (freesA 0 bs).length ≤ 300 := by have := (freesA_len 0 bs).1; rw [HX.out.1.size] at this; omega
    generalize hfl : (freesA 0 bs).length = fl at *
    go_wp2_with fail
    go_loopw [13] (fun i wz => ∃ k : Nat, i = .int .i64 (k : Int) ∧ k ≤ fl ∧ w6 = wz) (fun i _ => fl - (intOf i).toNat)
    case atStart => exact ⟨0, rfl, Nat.zero_le _, rfl⟩
    case round =>
      obtain ⟨k, rfl, hk, hwz⟩ := hrel
      subst hwz
      by_cases hkf : k < fl
      · obtain ⟨x, hx⟩ : ∃ x, (freesA 0 bs)[k]? = some x := ⟨_, List.getElem?_eq_getElem (by omega)⟩
        obtain ⟨b6, c6, hof, hc1, hc2⟩ := H6.out.2.at2 hx
        subst hof
        have hxs := HFS.out x (List.mem_of_getElem? hx)
        have hkfi : (k : Int) < (fl : Int) := by omega
        have hxs' : ¬ ((sz : Int) + 2 ≤ x.2) := by omega
        clear hx
        generalize x.2 = x2 at *
        generalize x.1 = x1 at *
        go_wp2_with fail
        go_roundw
        case rel => exact ⟨k + 1, by go_num, by omega, trivial⟩
        case measure => simp [intOf]; omega
      · have hkf' : decide ((k : Int) < (fl : Int)) = false := decide_eq_false (by omega)
        go_wp2_with fail
        exact hQ _ _ _ _ _ _ _ _ _ _ _ _ _ _ _ _ _ _ _ _ _ _ _ _ _ _ _ _ _ _ _ _ _ _ _ _ _ _ _ _ _ HX.out.1 H6.out.1 (by omega)
  | some o =>
    rw [hr] at AL
    simp only [rmA, errM, Option.isSome_some, if_true] at AL
    have HX2 : Hid (Whole n1 (allocB 1 sz bs) (ls ++ [(o : Int) + 1])) := HX.out.1.alloc hr
    clear hr
    go_wp2_with fail
    refine AL.mono ?_
    rintro e w5 ⟨rfl, h5, f5⟩
    have H5 : Hid (AB w w5 p g (allocB 1 sz bs) (.slice ol n7 cl) ls) := HX.out.2.turn HG.out h5 f5
    have FA := free_any w5 p g _ h5
    clear h5 f5 AL
    go_wp2_with fail
    refine FA.mono ?_
    rintro e w6 ⟨v6, rfl, o6, n6, f6⟩
    obtain ⟨of6, cf6, hv6⟩ := o6.form
    subst hv6
    have H6 : Hid (AB w w6 p g (allocB 1 sz bs) (.slice ol n7 cl) ls) := H5.out.more f6
    clear o6 n6 f6 FA H5
    generalize hfl : (freesA 0 (allocB 1 sz bs)).length = fl at *
    go_wp2_with fail
    go_loopw [13] (fun i wz => i = .int .i64 0 ∧ w6 = wz) (fun _ _ => 0)
    case atStart => exact ⟨rfl, rfl⟩
    case round =>
      obtain ⟨rfl, hwz⟩ := hrel
      subst hwz
      have H7 : Hid (AB w (w6.alloc (.cells (elI.f ((o : Int) + 1)).toArray elI.e)) p g (allocB 1 sz bs) (.slice ol n7 cl) ls) := H6.out.more ((Fr.refl no w6).alloc _ _)
      by_cases hkf : 0 < fl
      · have hkf' : (0 : Int) < (fl : Int) := by omega
        go_wp2_with (at_builtin; refine wpList_apdG elI_ok _ rfl rfl _ _ rfl (.slice ol n7 cl) ls rfl H7.out.own _ rfl [(o : Int) + 1] (srcG_one elI_ok w6 ((o : Int) + 1)) (by simp; omega) ?_; intro v' w7 o7 s7)
        have H8 : Hid (AB w w7 p g (allocB 1 sz bs) v' (ls ++ [(o : Int) + 1])) := H7.out.grow o7 s7
        clear o7 s7
        exact hQ _ _ _ _ _ _ _ _ _ _ _ _ _ _ _ _ _ _ _ _ _ _ _ _ _ _ _ _ _ _ _ _ _ _ _ _ _ _ _ _ _ HX2.out H8.out (by simp; omega)
      · have hkf' : decide ((0 : Int) < (fl : Int)) = false := decide_eq_false (by omega)
        go_wp2_with (at_builtin; refine wpList_apdG elI_ok _ rfl rfl _ _ rfl (.slice ol n7 cl) ls rfl H7.out.own _ rfl [(o : Int) + 1] (srcG_one elI_ok w6 ((o : Int) + 1)) (by simp; omega) ?_; intro v' w7 o7 s7)
        have H8 : Hid (AB w w7 p g (allocB 1 sz bs) v' (ls ++ [(o : Int) + 1])) := H7.out.grow o7 s7
        clear o7 s7
        exact hQ _ _ _ _ _ _ _ _ _ _ _ _ _ _ _ _ _ _ _ _ _ _ _ _ _ _ _ _ _ _ _ _ _ _ _ _ _ _ _ _ _ HX2.out H8.out (by simp; omega)
end Go.Proofs.Ytmoejipmiicgpaa
