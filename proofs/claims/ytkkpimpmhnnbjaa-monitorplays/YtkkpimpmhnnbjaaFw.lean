/- MonitorFair, walked. -/
import Derived.Test.YtkkpimpmhnnbjaaFp
import Derived.Deep.DeepCutAuto
namespace Go.Proofs.Ytkkpimpmhnnbjaa
open Go.ChangeShapes Go.WideShapes Go.ChangeAt Go.RowKit

theorem OwnG.tm {c : Nat} {w w' : World} {v : Value} {l : List Int} (h : OwnG elI w v l) (f : Fr (Tm c w) w w') : OwnG elI w' v l :=
  h.kept f (fun k hk t => by
    obtain ⟨cur, hc⟩ := h.tag hk
    obtain ⟨_, ⟨es, cl, e⟩ | ⟨cur', ty, e, ht⟩⟩ := t
    · rw [e] at hc; simp at hc
    · rw [e] at hc
      simp only [Option.some.injEq, Obj.cells.injEq] at hc
      have : ty = 3 := hc.2.1
      rcases ht with rfl | rfl | rfl <;> exact absurd this (by decide))

/-- A row of numbers beside a table grows. -/
theorem Jt.row {W w w' : World} {p n : Nat} {s : St} {v v' : Value} {l : List Int} (h : Jt W w p n s) (o : OwnG elI w v l) (nv : NewV W v) (sp : Sp v w v' w') : Jt W w' p n s ∧ NewV W v' := by
  obtain ⟨n1, f1⟩ := nv.step h.fr sp
  refine ⟨⟨h.tb.kept sp.1 (fun k hk e => ?_), h.bd, f1⟩, n1⟩
  obtain ⟨cur, hc⟩ := o.tag e
  obtain ⟨_, ⟨es, cl, e⟩ | ⟨cur', ty, e, ht⟩⟩ := hk
  · rw [e] at hc; simp at hc
  · rw [e] at hc
    simp only [Option.some.injEq, Obj.cells.injEq] at hc
    have : ty = 3 := hc.2.1
    rcases ht with rfl | rfl | rfl <;> exact absurd this (by decide)

theorem elem42 : Try.prog.elem 42 = 3 := by kernel_rfl

def cntO (o : Int) : Int := if o = 0 then 0 else 1

def hasI (t : Int) (l : List Int) : Bool := decide (t ∈ l)

set_option maxRecDepth 100000 in
set_option maxHeartbeats 4000000 in
theorem fair_any (w : World) (v : Value) (l : List Nat) (h : RdG elY w v l) (hb : ∀ c ∈ l, c < 256) :
    Calls Try.prog 4 #[v] w fun e w' => e = .returned (.bool true) ∧ Fr no w w' := by
  have HR : Hid (RdG elY w v l) := h
  obtain ⟨ad, cp, rfl, hcap, hmx, -⟩ := h
  unfold maxLen at hmx
  have KN := known_any w
  have HB : Hid (∀ c ∈ l, c < 256) := hb
  clear hb
  generalize hln : l.length = ln at *
  by_cases hbig : 80 < ln
  · have hbig' : (80 : Int) < (ln : Int) := by omega
    go_enter Try.func4, Try.ntmps4
    go_wp2_with fail
    refine KN.mono ?_
    rintro _ w1 ⟨rfl, f1⟩
    have HF : Hid _ := f1
    clear f1
    go_wp2_with fail
    go_ret
    exact ⟨rfl, HF.out⟩
  · have hbig' : ¬ (80 : Int) < (ln : Int) := by omega
    go_enter Try.func4, Try.ntmps4
    go_wp2_with fail
    refine KN.mono ?_
    rintro _ w1 ⟨rfl, f1⟩
    have NW := jNew w w1 f1
    clear f1 KN
    go_wp2_with fail
    refine NW.mono ?_
    rintro _ w2 ⟨p, rfl, j2, -⟩
    have J2 : Hid _ := j2
    clear j2 NW
    go_wp2_with fail
    go_loopw [4, 5, 6] (fun ov vq iv wr => ∃ (o : Int) (q : List Int) (i : Nat) (s : St), ov = .int .i64 o ∧ iv = .int .i64 (i : Int) ∧ i ≤ ln ∧ OwnG elI wr vq q ∧ NewV w vq ∧ Jt w wr p (2 * i) s ∧ Fair s o q ∧ q.length ≤ i) (fun _ _ iv _ => ln - (intOf iv).toNat)
    case atStart => exact ⟨0, [], 0, st0, rfl, rfl, Nat.zero_le _, OwnG.nil _ _, NewV.nil _, J2.out, fair0, Nat.le_refl _⟩
    case round =>
      clear J2
      obtain ⟨o, q, i, s, rfl, rfl, hi, hq, nq, js, hfa, hql⟩ := hrel
      by_cases hlt : i < ln
      · obtain ⟨x, hx⟩ : ∃ x, l[i]? = some x := ⟨_, List.getElem?_eq_getElem (by omega)⟩
        have hx256 := HB.out x (List.mem_of_getElem? hx)
        obtain ⟨b0, o0, hov, hc0⟩ := (HR.out.keep js.fr).at1 (u := .int .u8 (x : Int)) rfl rfl hx
        subst hov
        have hlt' : (i : Int) < (ln : Int) := by omega
        obtain ⟨oq, cq, hvq⟩ := hq.form
        have HQ : Hid (OwnG elI wr u5 q) := hq
        have HN : Hid (NewV w u5) := nq
        have HJ : Hid (Jt w wr p (2 * i) s) := js
        have HFA : Hid (Fair s o q) := hfa
        have HQL : Hid (q.length ≤ i) := hql
        have hob := hfa.ob
        clear hq nq js hfa hql hx
        subst hvq
        generalize hqn : q.length = qn at HQ HN ⊢
        have hqb : qn ≤ 80 := by have := HQL.out; omega
        have ht1 : 1 ≤ (x : Int) / 2 % 6 + 1 ∧ (x : Int) / 2 % 6 + 1 ≤ 6 := by omega
        go_upto_block 2 with fail
        generalize (x : Int) / 2 % 6 + 1 = t at *
        go_cut [8] (fun b wc => b = .bool (hasI t q) ∧ wc = wr)
        case first =>
          go_wp2_with fail
          go_loopw [8, 9] (fun b kv wz => ∃ (k : Nat), kv = .int .i64 (k : Int) ∧ k ≤ qn ∧ b = .bool (hasI t (q.take k)) ∧ wz = wr) (fun _ kv _ => qn - (intOf kv).toNat)
          case atStart => exact ⟨0, rfl, Nat.zero_le _, rfl, rfl⟩
          case round =>
            obtain ⟨k, rfl, hk, rfl, hwz⟩ := hrel
            subst hwz
            clear hc0
            by_cases hkq : k < qn
            · obtain ⟨y, hy⟩ : ∃ y, q[k]? = some y := ⟨_, List.getElem?_eq_getElem (by omega)⟩
              obtain ⟨b1, o1, hoq, hcy⟩ := (HQ.out.rd elI_ok).at1 (u := .int .i64 y) rfl rfl hy
              subst hoq
              have hkq' : (k : Int) < (qn : Int) := by omega
              have HST : Hid (hasI t (q.take (k + 1)) = (hasI t (q.take k) || y == t)) := by
                unfold Hid hasI
                rw [take_next q k y hy]
                by_cases e1 : t ∈ q.take k
                · simp [e1]
                · by_cases e2 : y = t
                  · simp [e2]
                  · simp [e1, e2, Ne.symm e2]
              clear hy
              cases hbb : hasI t (q.take k) with
              | true =>
                rw [hbb] at HST
                go_wp2_with fail
                go_roundw
                case rel => exact ⟨k + 1, by go_num, by omega, by rw [HST.out]; rfl, trivial⟩
                case measure => simp [intOf]; omega
              | false =>
                rw [hbb] at HST
                cases hyt : (y == t) with
                | true =>
                  rw [hyt] at HST
                  go_wp2_with fail
                  go_roundw
                  case rel => exact ⟨k + 1, by go_num, by omega, by rw [HST.out]; rfl, trivial⟩
                  case measure => simp [intOf]; omega
                | false =>
                  rw [hyt] at HST
                  go_wp2_with fail
                  go_roundw
                  case rel => exact ⟨k + 1, by go_num, by omega, by rw [HST.out]; rfl, trivial⟩
                  case measure => simp [intOf]; omega
            · obtain rfl : k = qn := by omega
              have HE : Hid (hasI t (q.take k) = hasI t q) := by rw [Hid, List.take_of_length_le (by omega)]
              generalize hasI t (q.take k) = bb at *
              go_wp2_with fail
              go_meet
              exact ⟨by rw [HE.out], rfl⟩
        case rest =>
          obtain ⟨rfl, hwc⟩ := hcut
          subst hwc
          by_cases hev : x % 2 = 0
          · have hev' : ((x : Int) % 2 == 0) = true := by simp; omega
            by_cases hst : hasI t q = true ∨ o = t
            · have HRL : Hid (Jt w wc p (2 * (i + 1)) s) := HJ.out.mono (by omega)
              cases hbb : hasI t q with
              | true =>
                clear hst
                go_wp2_with fail
                go_roundw
                case rel => exact ⟨o, q, i + 1, s, rfl, by go_num, by omega, HQ.out, HN.out, HRL.out, HFA.out, by have := HQL.out; omega⟩
                case measure => simp [intOf]; omega
              | false =>
                have hot : o = t := hst.resolve_left (by rw [hbb]; decide)
                have hot' : (o == t) = true := by simpa using hot
                clear hst hot
                go_wp2_with fail
                go_roundw
                case rel => exact ⟨o, q, i + 1, s, rfl, by go_num, by omega, HQ.out, HN.out, HRL.out, HFA.out, by have := HQL.out; omega⟩
                case measure => simp [intOf]; omega
            · have hbb : hasI t q = false := by
                cases h : hasI t q
                · rfl
                · exact absurd (.inl h) hst
              have hot : o ≠ t := fun e => hst (.inr e)
              have hot' : (o == t) = false := by simpa using hot
              have hnq : t ∉ q := by simpa [hasI] using hbb
              have EN := HJ.out.enter (by omega) 5 t ⟨by decide, by decide⟩ ⟨by omega, by omega⟩
              by_cases ho0 : o = 0
              · subst ho0
                obtain ⟨e1, e2, e3⟩ := HFA.out.enter0 t ht1
                have hq0 := HFA.out.free rfl
                rw [e1, e2] at EN
                have HE3 : Hid (Fair (enS 5 t s) t [] ∧ q = []) := ⟨e3, hq0⟩
                clear hst hot hnq e1 e2 e3 hq0
                go_wp2_with fail
                refine EN.mono ?_
                rintro _ w5 ⟨rfl, j5, f5⟩
                have HJ5 : Hid (Jt w w5 p (2 * i + 2) (enS 5 t s) ∧ OwnG elI w5 (.slice oq qn cq) q) := ⟨j5, HQ.out.tm f5⟩
                clear j5 f5 EN
                go_wp2_with fail
                go_roundw
                case rel => exact ⟨t, q, i + 1, enS 5 t s, rfl, by go_num, by omega, HJ5.out.2, HN.out, HJ5.out.1.mono (by omega), by rw [HE3.out.2]; exact HE3.out.1, by have := HQL.out; omega⟩
                case measure => simp [intOf]; omega
              · have ho0' : (o == 0) = false := by simpa using ho0
                obtain ⟨e1, e2, e3⟩ := HFA.out.enter1 t ht1 ho0 hot hnq
                rw [e1, e2] at EN
                have HE3 : Hid (Fair (enS 5 t s) o (q ++ [t])) := e3
                clear hst hot hnq e1 e2 e3 ho0
                go_wp2_with fail
                refine EN.mono ?_
                rintro _ w5 ⟨rfl, j5, f5⟩
                have HJ5 : Hid (Jt w (w5.alloc (.cells (elI.f t).toArray elI.e)) p (2 * i + 2) (enS 5 t s)) := j5.keep ((Fr.refl no w5).alloc _ _)
                have HO5 : Hid (OwnG elI (w5.alloc (.cells (elI.f t).toArray elI.e)) (.slice oq qn cq) q) := (HQ.out.tm f5).keep ((Fr.refl no w5).alloc _ _)
                have HSR : Hid _ := srcG_one elI_ok w5 t
                have HLN : Hid (q.length + [t].length ≤ 1000000) := by show _ + 1 ≤ _; have := HQL.out; omega
                clear j5 f5 EN
                go_wp2_with (at_builtin; refine wpList_apdG elI_ok _ rfl rfl _ _ rfl (.slice oq qn cq) q rfl HO5.out _ rfl [t] HSR.out HLN.out ?_; intro v' w6 o6 s6; have H6 : Hid (OwnG elI w6 v' (q ++ [t]) ∧ Jt w w6 p (2 * i + 2) (enS 5 t s) ∧ NewV w v') := ⟨o6, HJ5.out.row HO5.out HN.out s6⟩; clear o6 s6)
                go_roundw
                case rel => exact ⟨o, q ++ [t], i + 1, enS 5 t s, rfl, by go_num, by omega, H6.out.1, H6.out.2.2, H6.out.2.1.mono (by omega), HE3.out, by have := HQL.out; simp; omega⟩
                case measure => simp [intOf]; omega
          · have hev' : ((x : Int) % 2 == 0) = false := by simp only [beq_eq_false_iff_ne]; omega
            have EX := HJ.out.exit (by omega) 5 t ⟨by decide, by decide⟩
            by_cases hot : o = t
            · subst hot
              obtain ⟨e1, e2, e3⟩ := HFA.out.exitOk ht1.1
              rw [e1, e2] at EX
              have HE3 : Hid (Fair (exS 5 o s) (q.headD 0) q.tail) := e3
              clear e1 e2 e3
              have hoo : (o != o) = false := by simp
              -- what is asked of the lock behind it
              have LK : Hid (∀ w', Jt w w' p (2 * i + 2) (exS 5 o s) → Calls Try.prog 21 #[.pointer (some ⟨p, 0, none⟩), .int .i64 5] w' fun e w2 => ∃ fa k1 o1 c1 o2 k2 c2, e = .returned (.agg #[.int .i64 (q.headD 0), .int .i64 (cntO (q.headD 0)), .bool fa, .slice o1 k1 c1, .slice o2 k2 c2]) ∧ OwnG elI w2 (.slice o1 k1 c1) q.tail ∧ Jt w w2 p (2 * i + 2) (exS 5 o s) ∧ Fr no w' w2) := fun w' h => by
                refine (h.lock (by omega) 5 ⟨by decide, by decide⟩).mono ?_
                rintro e w2 ⟨o1, k1, c1, o2, k2, c2, rfl, -, -, h3, -, h5, h6⟩
                refine ⟨_, k1, o1, c1, o2, k2, c2, by rw [HE3.out.own, HE3.out.cnt]; rfl, ?_, h5, h6⟩
                rw [HE3.out.ent, fsts_line] at h3
                exact h3
              cases hqq : q with
              | nil =>
                subst hqq
                have hz : qn = 0 := by rw [← hqn]; rfl
                subst hz
                simp only [List.headD_nil, List.tail_nil] at EX LK HE3
                rw [show cntO 0 = 0 from rfl] at LK
                go_wp2_with fail
                refine EX.mono ?_
                rintro _ w5 ⟨rfl, j5, f5⟩
                have L5 := LK.out w5 j5
                have HQ5 : Hid (OwnG elI w5 (.slice oq 0 cq) []) := HQ.out.tm f5
                clear j5 f5 EX LK
                go_wp2_with fail
                refine L5.mono ?_
                rintro _ w6 ⟨fa, k1, o1, c1, o2, k2, c2, rfl, h1, j6, f6⟩
                have IN := ints_any (w6.alloc (.cells #[.int .i64 0, .int .i64 0, .bool fa, .slice o1 k1 c1, .slice o2 k2 c2] 49)) _ _ _ _ ((h1.keep ((Fr.refl no w6).alloc _ _)).rd elI_ok) (((HQ5.out.keep f6).keep ((Fr.refl no w6).alloc _ _)).rd elI_ok)
                rw [show sameI [] [] = true from rfl] at IN
                have HJ6 : Hid (Jt w (w6.alloc (.cells #[.int .i64 0, .int .i64 0, .bool fa, .slice o1 k1 c1, .slice o2 k2 c2] 49)) p (2 * i + 2) (exS 5 o s) ∧ OwnG elI (w6.alloc (.cells #[.int .i64 0, .int .i64 0, .bool fa, .slice o1 k1 c1, .slice o2 k2 c2] 49)) (.slice oq 0 cq) []) := ⟨j6.keep ((Fr.refl no w6).alloc _ _), (HQ5.out.keep f6).keep ((Fr.refl no w6).alloc _ _)⟩
                clear L5 h1 j6 f6
                go_wp2_with fail
                refine IN.mono ?_
                rintro _ w7 ⟨rfl, m7, rfl⟩
                go_wp2_with fail
                go_roundw
                case rel => exact ⟨0, [], i + 1, exS 5 o s, rfl, by go_num, by omega, HJ6.out.2.keep ((Fr.refl no _).drewN m7), HN.out, (HJ6.out.1.keep ((Fr.refl no _).drewN m7)).mono (by omega), HE3.out, Nat.zero_le _⟩
                case measure => simp [intOf]; omega
              | cons u r =>
                subst hqq
                have hur := HFA.out.rng u (by simp)
                simp only [List.headD_cons, List.tail_cons] at EX LK HE3
                rw [show cntO u = 1 from if_neg (by omega)] at LK
                obtain ⟨g, oo, rfl⟩ : ∃ g oo, oq = some ⟨g, oo, none⟩ := by
                  rcases HQ.out with ⟨_, hl⟩ | ⟨g, oo, cap, cur, hv, _⟩
                  · simp at hl
                  · simp only [Value.slice.injEq] at hv
                    exact ⟨g, oo, hv.1⟩
                have hu0 : (u == 0) = false := by simp only [beq_eq_false_iff_ne]; omega
                have huu : (u != u) = false := by simp
                have hqp : 0 < qn := by rw [← hqn]; simp
                have hqp' : (0 : Int) < (qn : Int) := by omega
                have hrl : r.length + 1 = qn := by rw [← hqn]; simp
                go_wp2_with fail
                refine EX.mono ?_
                rintro _ w5 ⟨rfl, j5, f5⟩
                have HQ5 : OwnG elI w5 (.slice (some ⟨g, oo, none⟩) qn cq) (u :: r) := HQ.out.tm f5
                have k0 := HQ5.cells 0 (.int .i64 u) rfl
                rw [Nat.add_zero] at k0
                obtain ⟨sv, hs1, -, -, hso0, hsb⟩ := cut_high elI_ok elem42 HQ5 1 (by simp)
                have hso : OwnG elI w5 sv r := hso0
                obtain ⟨so, sc, hsv⟩ := hso.form
                subst hsv
                have hs2 : ∀ w', (Instr.slice 42 (.slice (some ⟨g, oo, none⟩) qn cq) (some (.int .i64 1)) none none).run Try.prog w' = .ok (.slice so r.length sc) w' := hs1
                have HSO : Hid (OwnG elI w5 (.slice so r.length sc) r) := hso
                have HNS : Hid (NewV w (.slice so r.length sc)) := fun k hk => by
                  rw [hsb] at hk
                  exact HN.out k (by rw [← hk]; rfl)
                have HJ5 : Hid (Jt w w5 p (2 * i + 2) (exS 5 o s)) := j5
                clear j5 f5 EX HQ5 hs1 hso0 hsb hso HN HQ
                generalize hrn : r.length = rn at *
                go_upto_region 31 with fail
                go_quiet (fail)
                have J5 := HJ5.out.keep ((Fr.refl no w5).drewN nq)
                have HS5 : Hid (OwnG elI (w5.drewN nq) (.slice so rn sc) r) := HSO.out.keep ((Fr.refl no w5).drewN nq)
                have L5 := LK.out _ J5
                clear J5 HJ5 HSO k0 LK
                generalize w5.drewN nq = w5' at *
                go_wp2_with fail
                refine L5.mono ?_
                rintro _ w6 ⟨fa, k1, o1, c1, o2, k2, c2, rfl, h1, j6, f6⟩
                have IN := ints_any (w6.alloc (.cells #[.int .i64 u, .int .i64 1, .bool fa, .slice o1 k1 c1, .slice o2 k2 c2] 49)) _ _ _ _ ((h1.keep ((Fr.refl no w6).alloc _ _)).rd elI_ok) (((HS5.out.keep f6).keep ((Fr.refl no w6).alloc _ _)).rd elI_ok)
                rw [show sameI r r = true from decide_eq_true rfl] at IN
                have HJ6 : Hid (Jt w (w6.alloc (.cells #[.int .i64 u, .int .i64 1, .bool fa, .slice o1 k1 c1, .slice o2 k2 c2] 49)) p (2 * i + 2) (exS 5 o s) ∧ OwnG elI (w6.alloc (.cells #[.int .i64 u, .int .i64 1, .bool fa, .slice o1 k1 c1, .slice o2 k2 c2] 49)) (.slice so rn sc) r) := ⟨j6.keep ((Fr.refl no w6).alloc _ _), (HS5.out.keep f6).keep ((Fr.refl no w6).alloc _ _)⟩
                clear L5 h1 j6 f6
                go_wp2_with fail
                refine IN.mono ?_
                rintro _ w7 ⟨rfl, m7, rfl⟩
                go_wp2_with fail
                go_roundw
                case rel => exact ⟨u, r, i + 1, exS 5 o s, rfl, by go_num, by omega, HJ6.out.2.keep ((Fr.refl no _).drewN m7), HNS.out, (HJ6.out.1.keep ((Fr.refl no _).drewN m7)).mono (by omega), HE3.out, by have := HQL.out; simp only [List.length_cons] at this; omega⟩
                case measure => simp [intOf]; omega
            · have hot' : (o != t) = true := by simpa using hot
              obtain ⟨e1, e2⟩ := HFA.out.exitNo t hot
              rw [e1, e2] at EX
              generalize exR 5 t s = er at EX
              clear hot e1 e2
              go_wp2_with fail
              refine EX.mono ?_
              rintro _ w5 ⟨rfl, j5, f5⟩
              have HJ5 : Hid (Jt w w5 p (2 * i + 2) s ∧ OwnG elI w5 (.slice oq qn cq) q) := ⟨j5, HQ.out.tm f5⟩
              clear j5 f5 EX
              go_wp2_with fail
              go_roundw
              case rel => exact ⟨o, q, i + 1, s, rfl, by go_num, by omega, HJ5.out.2, HN.out, HJ5.out.1.mono (by omega), HFA.out, by have := HQL.out; omega⟩
              case measure => simp [intOf]; omega
      · obtain rfl : i = ln := by omega
        have HF : Hid (Fr no w wr) := js.fr
        clear hq nq js hfa hql
        go_wp2_with fail
        go_ret
        exact ⟨rfl, HF.out⟩
end Go.Proofs.Ytkkpimpmhnnbjaa
