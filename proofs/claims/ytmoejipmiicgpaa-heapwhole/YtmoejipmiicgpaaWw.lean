/- The statement that objects and free blocks are all words: it returns true. -/
import Derived.Test.YtmoejipmiicgpaaWA
import Derived.Test.YtmoejipmiicgpaaWB
import Derived.Test.YtmoejipmiicgpaaWC
import Derived.Test.YtmoejipmiicgpaaWD
namespace Go.Proofs.Ytmoejipmiicgpaa
open Go.ChangeShapes Go.WideShapes Go.ChangeAt Go.RowKit

set_option maxRecDepth 100000 in
set_option maxHeartbeats 8000000 in
theorem whole_any (w : World) (n : Nat) (v : Value) (l : List Nat) (hn : n < 65536) (hv : RdG elH w v l) (hb : ∀ c ∈ l, c < 65536) :
    Calls Try.prog 4 #[.int .u16 (n : Int), v] w fun e w' => e = .returned (.bool true) ∧ Fr no w w' := by
  have KN := known_any w
  have e300 : (n : Int) % 300 = ((n % 300 : Nat) : Int) := by omega
  have h300 : n % 300 < 300 := Nat.mod_lt _ (by omega)
  obtain ⟨ov, cv, hvf⟩ := hv.form
  have HV : Hid (RdG elH w v l) := hv
  have HB : Hid (∀ c ∈ l, c < 65536) := hb
  subst hvf
  generalize n % 300 = n1 at *
  generalize hln : l.length = ln at *
  clear hv hb
  by_cases hbig : 80 < ln
  · go_enter Try.func4, Try.ntmps4
    go_wp2_with fail
    refine KN.mono ?_
    rintro e w1 ⟨rfl, f1⟩
    have hb' : (80 : Int) < (ln : Int) := by omega
    have F1 : Hid (Fr no w w1) := f1
    clear f1
    go_wp2_with fail
    go_ret
    exact ⟨rfl, F1.out⟩
  · have hb' : ¬ ((80 : Int) < (ln : Int)) := by omega
    go_enter Try.func4, Try.ntmps4
    go_wp2_with fail
    refine KN.mono ?_
    rintro e w1 ⟨rfl, f1⟩
    have F1 : Hid (Fr no w w1) := f1
    have NW := new_any w1 (n1 : Int)
    rw [show sizeN (n1 : Int) = n1 by unfold sizeN; omega] at NW
    clear f1 KN
    go_wp2_with fail
    refine NW.mono ?_
    rintro e w2 ⟨rfl, h2, f2⟩
    have H2 : Hid (AB w w2 (w1.heap.size + 1) w1.heap.size (newB n1) (.slice none 0 0) []) := ⟨h2, OwnG.nil _ _, NewV.nil _, F1.out.and f2⟩
    have HG : Hid (w.heap.size ≤ w1.heap.size) := F1.out.size
    clear h2 f2 NW F1 e300
    generalize w1.heap.size + 1 = p at *
    generalize w1.heap.size = g at *
    go_wp2_with fail
    clear hb'
    go_loopw [7, 8] (fun lv i wr => ∃ (t : Nat) (bs : List Blk) (ls : List Int), i = .int .i64 (t : Int) ∧ t ≤ ln ∧ ls.length ≤ t ∧ Whole n1 bs ls ∧ AB w wr p g bs lv ls) (fun _ i _ => ln - (intOf i).toNat)
    case atStart => exact ⟨0, _, _, rfl, Nat.zero_le _, Nat.le_refl _, whole_new n1, H2.out⟩
    case round =>
      clear H2
      obtain ⟨t, bs, ls, rfl, htn, hlt2, hwh, hab⟩ := hrel
      by_cases hti : t < ln
      · obtain ⟨y, hy⟩ : ∃ y, l[t]? = some y := ⟨_, List.getElem?_eq_getElem (by omega)⟩
        have hy64 := HB.out y (List.mem_of_getElem? hy)
        obtain ⟨b0, o0, hov, hcy⟩ := (HV.out.keep hab.fr).at1 (u := .int .u16 (y : Int)) rfl rfl hy
        subst hov
        have hti' : (t : Int) < (ln : Int) := by omega
        clear hy
        have hlb : ls.length ≤ 80 := by omega
        have hlen7 : ∃ ol cl, u7 = .slice ol ls.length cl := hab.own.form
        obtain ⟨ol, cl, hu7⟩ := hlen7
        subst hu7
        generalize hln7 : ls.length = n7 at *
        have e4 : (y : Int) / 4 = ((y / 4 : Nat) : Int) := by omega
        have hy4 : y / 4 < 20000 := by omega
        generalize y / 4 = q4 at *
        have esz : (q4 : Int) % 20 = ((q4 % 20 : Nat) : Int) := by omega
        have hsz : q4 % 20 < 20 := Nat.mod_lt _ (by omega)
        generalize q4 % 20 = sz at *
        have AL := alloc_nat wr p g bs hab.hp 1 sz (by decide)
        have HX : Hid (Whole n1 bs ls ∧ AB w wr p g bs (.slice ol n7 cl) ls) := ⟨hwh, hab⟩
        clear hwh hab
        go_upto_region 12 with fail
        go_cut [55] (fun u wc => u = .bool (decide (y % 4 < 3 ∨ n7 = 0)) ∧ wr = wc)
        case first =>
          by_cases h3 : y % 4 < 3
          · have h3' : (y : Int) % 4 < 3 := by omega
            have hd : decide (y % 4 < 3 ∨ n7 = 0) = true := decide_eq_true (.inl h3)
            go_wp2_with fail
            go_meet
            refine ⟨by rw [hd], ?_⟩
            first | rfl | trivial
          · have h3' : decide ((y : Int) % 4 < 3) = false := decide_eq_false (by omega)
            by_cases h0 : n7 = 0
            · have hd : decide (y % 4 < 3 ∨ n7 = 0) = true := decide_eq_true (.inr h0)
              have h0' : ((n7 : Int) == 0) = true := by simp [h0]
              clear h0
              go_wp2_with fail
              go_meet
              refine ⟨by rw [hd], ?_⟩
              first | rfl | trivial
            · have hd : decide (y % 4 < 3 ∨ n7 = 0) = false := decide_eq_false (by omega)
              have h0' : ((n7 : Int) == 0) = false := by simp; omega
              go_wp2_with fail
              go_meet
              refine ⟨by rw [hd], ?_⟩
              first | rfl | trivial
        case rest =>
          obtain ⟨rfl, hwc⟩ := hcut
          subst hwc
          generalize hbb : decide (y % 4 < 3 ∨ n7 = 0) = bb at *
          go_upto_if 55 with fail
          go_cut [7] (fun lv wc => ∃ (bs' : List Blk) (ls' : List Int), Whole n1 bs' ls' ∧ AB w wc p g bs' lv ls' ∧ ls'.length ≤ t + 1)
          case first =>
            cases bb with
            | true =>
              refine whole_true w wr p g n1 t sz n7 cl ln cv b0 o0 ol bs ls hsz h300 hln7 hti (by omega) hlt2 HX.out.1 HX.out.2 HG _ _ _ _ _ _ _ _ _ _ _ _ _ _ _ _ _ _ _ _ _ _ _ _ _ _ _ _ _ _ _ _ _ _ _ _ _ _ _ _ _ _ _ _ _ _ _ _ _ _ _ _ _ _ _ _ _ _ _ _ _ _ _ _ _ _ _ _ _ _ _ _ _ _ _ _ _ _ _ _ _ _ _ _ _ _ _ _ _ _ _ _ _ _ _ _ _ _ _ _ _ _ _ _ _ _ _ _ _ _ _ _ _ _ _ _ _ _ _ _ _ _ _ _ _ _ _ _ _ _ _ _ _ _ _ _ _ _ _ _ _ _ _ _ _ _ _ _ _ _ _ _ _ _ _ _ _ _ _ _ _ _ _ _ _ _ _ _ _ _ _ _ _ _ _ _ _ _ _ _ _ _ _ _ _ _ _ _ _ _ _ _ _ _ _ _ _ _ _ _ _ _ _ _ _ _ _ _ _ _ _ _ _ _ _ _ _ _ _ _ _ _ _ _ _ _ _ _ _ _ _ _ _ _ _ _ ?_
              intro d4 d7 d10 d11 d12 d13 d56 d57 d58 d59 d60 d61 d62 d63 d64 d65 d66 d67 d68 d69 d70 d71 d72 d73 d74 d75 d76 d77 d78 d79 d80 d81 d82 d83 d84 d85 d86 d87 wc bs' ls' k1 k2 k3
              have HK : Hid (Whole n1 bs' ls' ∧ AB w wc p g bs' d7 ls' ∧ ls'.length ≤ t + 1) := ⟨k1, k2, k3⟩
              clear k1 k2 k3
              go_wp2_with fail
              go_meet
              exact ⟨bs', ls', HK.out⟩
            | false =>
              have hnb : ¬ (y % 4 < 3 ∨ n7 = 0) := of_decide_eq_false hbb
              refine whole_false w wr p g n1 t sz n7 cl ln cv b0 o0 ol bs ls hln7 hti (by omega) hlt2 HX.out.1 HX.out.2 HG y q4 e4 hy4 (by omega) hcy _ _ _ _ _ _ _ _ _ _ _ _ _ _ _ _ _ _ _ _ _ _ _ _ _ _ _ _ _ _ _ _ _ _ _ _ _ _ _ _ _ _ _ _ _ _ _ _ _ _ _ _ _ _ _ _ _ _ _ _ _ _ _ _ _ _ _ _ _ _ _ _ _ _ _ _ _ _ _ _ _ _ _ _ _ _ _ _ _ _ _ _ _ _ _ _ _ _ _ _ _ _ _ _ _ _ _ _ _ _ _ _ _ _ _ _ _ _ _ _ _ _ _ _ _ _ _ _ _ _ _ _ _ _ _ _ _ _ _ _ _ _ _ _ _ _ _ _ _ _ _ _ _ _ _ _ _ _ _ _ _ _ _ _ _ _ _ _ _ _ _ _ _ _ _ _ _ _ _ _ _ _ _ _ _ _ _ _ _ _ _ _ _ _ _ _ _ _ _ _ _ _ _ _ _ _ _ _ _ _ _ _ _ _ _ _ _ _ _ _ _ _ _ _ _ _ _ _ _ _ _ _ _ _ _ _ ?_
              intro d7 d14 d88 d89 d90 d91 d92 d93 d94 d95 d96 d97 d98 d99 d100 d101 d102 d103 d104 d105 d106 d107 d108 d109 d110 d111 d112 d113 d114 d115 d116 d117 d118 d119 d120 d121 wc bs' ls' k1 k2 k3
              have HK : Hid (Whole n1 bs' ls' ∧ AB w wc p g bs' d7 ls' ∧ ls'.length ≤ t + 1) := ⟨k1, k2, k3⟩
              clear k1 k2 k3
              go_wp2_with fail
              go_meet
              exact ⟨bs', ls', HK.out⟩
          case rest =>
            clear AL HX hcy esz e4 hbb
            obtain ⟨bs', ls', hwh, hab, hll⟩ := hcut
            have HWH : Hid (Whole n1 bs' ls') := hwh
            have HAB : Hid (AB w wc p g bs' u7 ls') := hab
            obtain ⟨ol', cl', hu7'⟩ := hab.own.form
            subst hu7'
            have AA := all_any wc p g bs' hab.hp
            rw [objsA_eq] at AA
            have hol1 : (objL 0 bs').length = ls'.length := hwh.len
            have hol2 : ls'.length ≤ 300 := by have := (freesA_len 0 bs').2; rw [hwh.size] at this; omega
            have hfl2 : (freesA 0 bs').length ≤ 300 := by have := (freesA_len 0 bs').1; rw [hwh.size] at this; omega
            clear hwh hab
            generalize hl8 : ls'.length = n8 at *
            go_wp2_with fail
            refine AA.mono ?_
            rintro e wa ⟨va, rfl, oa, na, fa⟩
            have FA := free_any wa p g bs' (HAB.out.hp.keep fa)
            obtain ⟨aa, ca, hva⟩ := oa.form
            rw [List.length_map, hol1] at hva
            subst hva
            have HA1 : Hid (AB w wa p g bs' (.slice ol' n8 cl') ls' ∧ OwnG elI wa (.slice aa n8 ca) ((objL 0 bs').map (·.1))) := ⟨HAB.out.more fa, oa⟩
            clear oa na fa AA HAB
            go_wp2_with fail
            refine FA.mono ?_
            rintro e wb ⟨vb, rfl, ob, nb, fb⟩
            obtain ⟨ab, cb, hvb⟩ := ob.form
            subst hvb
            have HB1 : Hid (AB w wb p g bs' (.slice ol' n8 cl') ls' ∧ RdG elI wb (.slice aa n8 ca) ((objL 0 bs').map (·.1)) ∧ RdG elB wb (.slice ab (freesA 0 bs').length cb) (freesA 0 bs')) := ⟨HA1.out.1.more fb, (HA1.out.2.keep fb).rd elI_ok, ob.rd elB_ok⟩
            clear ob nb fb FA HA1
            generalize hfl : (freesA 0 bs').length = fl at *
            go_upto_block 4 with fail
            refine whole_loop3 wb p g n1 n8 ca aa bs' h300 HWH.out.size hol1 hol2 HB1.out.1.hp HB1.out.2.1 _ _ _ _ _ _ _ _ _ _ _ _ _ _ _ _ _ _ _ _ _ _ _ _ _ _ _ _ _ _ _ _ _ _ _ _ _ _ _ _ _ _ _ _ _ _ _ _ _ _ _ _ _ _ _ _ _ _ _ _ _ _ _ _ _ _ _ _ _ _ _ _ _ _ _ _ _ _ _ _ _ _ _ _ _ _ _ _ _ _ _ _ _ _ _ _ _ _ _ _ _ _ _ _ _ _ _ _ _ _ _ _ _ _ _ _ _ _ _ _ _ _ _ _ _ _ _ _ _ _ _ _ _ _ _ _ _ _ _ _ _ _ _ _ _ _ _ _ _ _ _ _ _ _ _ _ _ _ _ _ _ _ _ _ _ _ _ _ _ _ _ _ _ _ _ _ _ _ _ _ _ _ _ _ _ _ _ _ _ _ _ _ _ _ _ _ _ _ _ _ _ _ _ _ _ _ _ _ _ _ _ _ _ _ _ _ _ _ _ _ _ _ _ _ _ _ _ _ _ _ _ _ _ _ _ _ _ _ _ ?_
            intro d4 d18 d19 d20 d126 d127 d128 d129 d130 d131 d132 d133 d134 d135 d136 d137 d138 d139 d140 d141 d142 d143 d144 d145 d146 d147 d148 d149 d150 d151 d152 d153 d154 d155 d156 d157 d158 d159 d160 d161 d162 wd fd
            have HFD : Hid (Fr no wb wd) := fd
            clear fd
            go_upto_block 6 with fail
            refine whole_loop4 wd n1 fl cb ab bs' h300 HWH.out.tight HWH.out.size hfl hfl2 (HB1.out.2.2.keep HFD.out) _ _ _ _ _ _ _ _ _ _ _ _ _ _ _ _ _ _ _ _ _ _ _ _ _ _ _ _ _ _ _ _ _ _ _ _ _ _ _ _ _ _ _ _ _ _ _ _ _ _ _ _ _ _ _ _ _ _ _ _ _ _ _ _ _ _ _ _ _ _ _ _ _ _ _ _ _ _ _ _ _ _ _ _ _ _ _ _ _ _ _ _ _ _ _ _ _ _ _ _ _ _ _ _ _ _ _ _ _ _ _ _ _ _ _ _ _ _ _ _ _ _ _ _ _ _ _ _ _ _ _ _ _ _ _ _ _ _ _ _ _ _ _ _ _ _ _ _ _ _ _ _ _ _ _ _ _ _ _ _ _ _ _ _ _ _ _ _ _ _ _ _ _ _ _ _ _ _ _ _ _ _ _ _ _ _ _ _ _ _ _ _ _ _ _ _ _ _ _ _ _ _ _ _ _ _ _ _ _ _ _ _ _ _ _ _ _ _ _ _ _ _ _ _ _ _ _ _ _ _ _ _ _ _ _ _ _ _ _ ?_
            intro e4 d21 d169 d170 d171 d172 d173 d174 d175 d176 d177 d178 d179 d180 d181 d182 d183 d184 d185 d186 d187 d188 d189 d190 d191 d192 d193 d194 d195 d196 d197 d198 d199 d200 d201 d202 d203 d204 d205 d206 d207 d208 d209 d210 d211 d212 d213 d214 d215 d216 d217 d218 d219 d220 d221 d222 d223 d224 d225 d226 d227 d228 d229 d230 d163 d164 d165 d166 d167 d168 we fe
            have HFE : Hid (AB w we p g bs' (.slice ol' n8 cl') ls') := (HB1.out.1.more HFD.out).more fe
            clear fe HFD HB1
            go_wp2_with fail
            go_roundw
            case rel => exact ⟨t + 1, bs', ls', by go_num, by omega, by omega, HWH.out, HFE.out⟩
            case measure => simp [intOf]; omega
      · obtain rfl : t = ln := by omega
        have F5 : Hid (Fr no w wr) := hab.fr
        clear hab hwh
        go_wp2_with fail
        go_ret
        exact ⟨rfl, F5.out⟩
end Go.Proofs.Ytmoejipmiicgpaa
