/- The statement that an arena behaves as the document tells: it returns true. -/
import Derived.Test.YtopcbcdigllenaaP3
import Derived.Test.YtopcbcdigllenaaPE
import Derived.Test.YtopcbcdigllenaaOp
import Derived.Test.YtopcbcdigllenaaNr
namespace Go.Proofs.Ytopcbcdigllenaa
open Go.ChangeShapes Go.WideShapes Go.ChangeAt Go.RowKit

set_option maxRecDepth 100000 in
set_option maxHeartbeats 8000000 in
theorem plays_any (w : World) (words : Int) (v : Value) (l : List (Int × Int × Int × Nat)) (_ : -9223372036854775808 ≤ words) (_ : words ≤ 9223372036854775807) (hv : RdG elS w v l) (hb : ∀ x ∈ l, x.2.1 ≤ 9223372036854775807) :
    Calls Try.prog 3 #[.int .i64 words, v] w fun e w' => e = .returned (.bool true) ∧ Fr no w w' := by
  have KN := known_any w
  obtain ⟨ov, cv, hvf⟩ := hv.form
  have HV : Hid (RdG elS w v l) := hv
  have HB : Hid (∀ x ∈ l, x.2.1 ≤ 9223372036854775807) := hb
  subst hvf
  generalize hln : l.length = ln at *
  clear hv hb
  by_cases hbig : 80 < ln
  · go_enter Try.func3, Try.ntmps3
    go_wp2_with fail
    refine KN.mono ?_
    rintro e w1 ⟨rfl, f1⟩
    have hb' : (80 : Int) < (ln : Int) := by omega
    have F1 : Hid (Fr no w w1) := f1
    clear f1
    go_wp2_with fail
    go_ret
    exact ⟨rfl, F1.out⟩
  · have hb' : ¬ ((80 : Int) < (ln : Int)) := by omega
    go_enter Try.func3, Try.ntmps3
    go_wp2_with fail
    refine KN.mono ?_
    rintro e w1 ⟨rfl, f1⟩
    have F1 : Hid (Fr no w w1) := f1
    have NW := new_any w1 words
    have hsz : sizeN words ≤ 2048 := by unfold sizeN; omega
    clear f1 KN
    go_wp2_with fail
    refine NW.mono ?_
    rintro e w2 ⟨rfl, h2, f2⟩
    have RN := refNew_eq w2 words
    generalize sizeN words = n at *
    have H2 : Hid (HP w2 (w1.heap.size + 1) w1.heap.size (newB n) ∧ Fr no w1 w2) := ⟨h2, f2⟩
    clear h2 f2 NW
    go_wp2_with fail
    refine RN.mono ?_
    rintro e w3 ⟨rfl, hw3⟩
    have H3 : Hid (Pl w w3 (w1.heap.size + 1) w1.heap.size w2.heap.size n (newB n) []) := by rw [hw3]; exact pl_new hsz F1.out H2.out.1 H2.out.2
    clear hw3 RN H2 F1
    generalize w1.heap.size + 1 = p at *
    generalize w1.heap.size = g at *
    generalize w2.heap.size = q at *
    go_wp2_with fail
    clear hb'
    go_loopw [7] (fun i wr => ∃ (t : Nat) (bs : List Blk) (T : List Ob), i = .int .i64 (t : Int) ∧ t ≤ ln ∧ Pl w wr p g q n bs T) (fun i _ => ln - (intOf i).toNat)
    case atStart => exact ⟨0, _, _, rfl, Nat.zero_le _, H3.out⟩
    case round =>
      clear H3
      obtain ⟨t, bs, T, rfl, htn, hpl⟩ := hrel
      by_cases hti : t < ln
      · obtain ⟨y, hy⟩ : ∃ y, l[t]? = some y := ⟨_, List.getElem?_eq_getElem (by omega)⟩
        have ha := HB.out y (List.mem_of_getElem? hy)
        obtain ⟨b0, o0, hov, hc0, hc1, hc2, hc3⟩ := (HV.out.keep hpl.hf.fr).at4 hy
        subst hov
        have hti' : (t : Int) < (ln : Int) := by omega
        have HX : Hid (Pl w wr p g q n bs T) := hpl
        clear hy hpl
        obtain ⟨wh, a, b, v⟩ := y
        simp only at hc0 hc1 hc2 hc3 ha
        go_upto_block 2 with fail
        rename_i K1 h1 K0 h0
        have HN : Hid (Pl w (wr.alloc (.cells #[.int .i64 wh, .int .i64 a, .int .i64 b, .int .u64 (v : Int)] 30)) p g q n bs T ∧ Bx (wr.alloc (.cells #[.int .i64 wh, .int .i64 a, .int .i64 b, .int .u64 (v : Int)] 30)) wr.heap.size (wh, a, b, v)) := ⟨HX.out.keep ((Fr.refl no wr).alloc _ _), heap_alloc_new wr _⟩
        revert HN
        generalize (wr.alloc (.cells #[.int .i64 wh, .int .i64 a, .int .i64 b, .int .u64 (v : Int)] 30)) = wn
        intro HN
        clear hc0 hc1 hc2 hc3 HX
        generalize wr.heap.size = s at *
        refine plays_sw w wn p g q n s bs T wh a b v ha HN.out.1 HN.out.2 _ _ _ _ _ _ _ _ _ _ _ _ _ _ _ _ _ _ _ _ _ _ _ _ _ _ _ _ _ _ _ _ _ _ _ _ _ _ _ _ _ _ _ _ _ _ _ _ _ _ _ _ _ _ _ _ _ _ _ _ _ _ _ _ _ _ _ _ _ _ _ _ _ _ _ _ _ _ _ _ _ _ _ _ _ _ _ _ _ _ _ _ _ _ _ _ _ _ _ _ _ _ _ _ _ _ _ _ _ _ _ _ _ _ _ _ _ _ _ _ _ _ _ _ _ _ _ _ _ _ _ _ _ _ _ _ _ _ _ _ _ _ _ _ _ _ _ _ _ _ _ _ _ _ _ _ _ _ _ _ _ _ _ _ _ _ _ _ _ _ _ _ _ _ _ _ _ _ _ _ _ _ _ _ _ _ _ _ _ _ _ _ _ _ _ _ _ _ _ _ _ _ _ _ _ _ _ _ _ _ _ _ _ _ _ _ _ _ _ _ _ _ _ _ _ _ _ _ _ _ _ _ _ _ _ _ _ _ _ _ _ _ _ _ _ _ _ _ _ ?_
        intro d9 d10 d11 d12 d13 d14 d15 d16 d41 d42 d43 d44 d45 d46 d47 d48 d49 d50 d51 d52 d53 d54 d55 d56 d57 d58 d59 d60 d61 d62 d63 d64 d65 d66 d67 d68 d69 d70 d71 d72 d73 d74 d75 d76 d77 d78 d79 d80 d81 d82 d83 d84 d85 d86 d87 d88 d89 d90 d91 d92 d93 d94 d95 d96 d97 d98 d99 d100 d101 d102 d103 d104 d105 d106 d107 d108 d109 d110 d111 d112 d113 d114 d115 d116 d117 d118 d119 d120 d121 d122 d123 d124 d125 d126 d127 d128 d129 d130 d131 d132 d133 d134 d135 d136 d137 d138 d139 d140 d141 d142 d143 d144 d145 d146 d147 d148 d149 d150 d151 d152 d153 d154 d155 d156 d157 d158 d159 d160 d161 d162 d163 d164 d165 d166 d167 d168 d169 d170 d171 d172 d173 d174 d175 d176 d177 d178 d179 d180 d181 d182 d183 d184 d185 d186 d187 d188 wc bs1 T1 k1 k2
        refine h0 _ _ ?_
        clear h0 HN
        refine Code.wp_mono (Q := Exit.then K1 (fun _ _ _ => False)) (fun e a w h => by cases e <;> first | exact h | exact False.elim h) ?_
        refine plays_tail w wc p g q n s bs1 T1 wh a b v ha k1 k2 _ _ _ _ _ _ _ _ _ _ _ _ _ _ _ _ _ _ _ _ _ _ _ _ _ _ _ _ _ _ _ _ _ _ _ _ _ _ _ _ _ _ _ _ _ _ _ _ _ _ _ _ _ _ _ _ _ _ _ _ _ _ _ _ _ _ _ _ _ _ _ _ _ _ _ _ _ _ _ _ _ _ _ _ _ _ _ _ _ _ _ _ _ _ _ _ _ _ _ _ _ _ _ _ _ _ _ _ _ _ _ _ _ _ _ _ _ _ _ _ _ _ _ _ _ _ _ _ _ _ _ _ _ _ _ _ _ _ _ _ _ _ _ _ _ _ _ _ _ _ _ _ _ _ _ _ _ _ _ _ _ _ _ _ _ _ _ _ _ _ _ _ _ _ _ _ _ _ _ _ _ _ _ _ _ _ _ _ _ _ _ _ _ _ _ _ _ _ _ _ _ _ _ _ _ _ _ _ _ _ _ _ _ _ _ _ _ _ _ _ _ _ _ _ _ _ _ _ _ _ _ _ _ _ _ _ _ _ _ _ _ _ _ _ _ _ _ _ _ ?_
        intro e17 e18 e19 e20 e21 e189 e190 e191 e192 e193 e194 e195 e196 e197 e198 e199 e200 e201 e202 e203 e204 e205 e206 e207 e208 e209 e210 e211 e212 e213 e214 e215 e216 e217 e218 e219 e220 e221 e222 e223 e224 e225 e226 e227 e228 e229 e230 e231 e232 e233 e234 e235 e236 e237 e238 e239 e240 e241 e242 e243 e244 e245 e246 e247 e248 e249 wd bs2 T2 k3 k4
        have HZ : Hid (Pl w wd p g q n bs2 T2) := k3
        clear k1 k2 k3 k4
        refine h1 _ _ ?_
        go_wp2_with fail
        go_roundw
        case rel => exact ⟨t + 1, bs2, T2, by go_num, by omega, HZ.out⟩
        case measure => simp [intOf]; omega
      · obtain rfl : t = ln := by omega
        have F5 : Hid (Fr no w wr) := hpl.hf.fr
        clear hpl
        go_wp2_with fail
        go_ret
        exact ⟨rfl, F5.out⟩
end Go.Proofs.Ytopcbcdigllenaa
