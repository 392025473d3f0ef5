/- LocksStack: the walk. -/
import Derived.Test.YtalgjpmaafooeaaGreatDoorL20K
import Derived.Test.YtalgjpmaafooeaaGreatDoorKaz
namespace Go.Proofs.YtalgjpmaafooeaaGreatDoor
open Go.ChangeShapes Go.WideShapes Go.ChangeAt Go.RowKit
open H (ky Owns MapOf ix NewV)
def Two (w wr : World) (cv : Value) (code : List (Int × Int)) (hv : Value) (held : List Int) : Prop := Row w wr cv code ∧ H.OwnG elJ wr hv held ∧ NewV w hv
theorem Two.code {w wr wa w' : World} {cv v' hv : Value} {code m : List (Int × Int)} {held : List Int} (h : Two w wr cv code hv held) (f : Fr no wr wa) (o : OwnG elIn w' v' (code ++ m)) (s : Sp no cv wa v' w') : Two w w' v' (code ++ m) hv held := by
 refine ⟨h.1.step f o s, (h.2.1.keep f).kept s.1 (fun k hk e => ?_), h.2.2⟩
 obtain ⟨c1, e1⟩ := (h.2.1.keep f).tag hk
 obtain ⟨c2, e2⟩ := (h.1.1.keep f).tag (e.resolve_left (fun f => f))
 exact ne_tag e1 e2 (by decide) rfl
theorem Two.held {w wr wa w' : World} {cv v' hv : Value} {code : List (Int × Int)} {held m : List Int} (h : Two w wr cv code hv held) (f : Fr no wr wa) (o : H.OwnG elJ w' v' (held ++ m)) (s : H.Sp hv wa v' w') : Two w w' cv code v' (held ++ m) := by
 obtain ⟨n1, f1⟩ := H.NewV.step h.2.2 (h.1.2.2.new f (fun _ _ f => f)) s
 refine ⟨⟨(h.1.1.keep f).kept s.1 (fun k hk e => ?_), h.1.2.1, f1⟩, o, n1⟩
 obtain ⟨c1, e1⟩ := (h.1.1.keep f).tag hk
 obtain ⟨c2, e2⟩ := (h.2.1.keep f).tag e
 exact ne_tag e1 e2 (by decide) rfl
theorem Two.cut {w wr : World} {cv : Value} {q : Option Addr} {n cap : Nat} {code : List (Int × Int)} {held : List Int} (h : Two w wr cv code (.slice q n cap) held) (k : Nat) (hk : k ≤ held.length) : Two w wr cv code (.slice q k cap) (held.take k) :=
 ⟨h.1, ownJ_take h.2.1 k hk, fun g hg => h.2.2 g (by cases q with | none => exact hg | some a => exact hg)⟩
theorem Two.cell {w wr : World} {cv : Value} {q : Option Addr} {n cap : Nat} {code : List (Int × Int)} {held : List Int} (h : Two w wr cv code (.slice q n cap) held) {k : Nat} {x : Int} (hx : held[k]? = some x) : ∃ b o, q = some ⟨b, o, none⟩ ∧ wr.cell? ⟨b, o + k, none⟩ = some (.int .i64 x) ∧ n ≤ cap := by
 obtain ⟨ad, cap', e, hc, -, -, hit⟩ := h.2.1.sl
 simp only [Value.slice.injEq] at e
 obtain ⟨rfl, rfl, rfl⟩ := e
 obtain ⟨bb, off, e, hcc⟩ := hit k x hx
 exact ⟨bb, off, e, hcc, hc⟩
theorem Two.len {w wr : World} {cv : Value} {q : Option Addr} {n cap : Nat} {code : List (Int × Int)} {held : List Int} (h : Two w wr cv code (.slice q n cap) held) : n = held.length := by
 obtain ⟨o, c, e⟩ := h.2.1.form
 simp only [Value.slice.injEq] at e
 exact e.2.1
set_option maxRecDepth 100000 in
set_option maxHeartbeats 8000000 in
theorem stack_any (w : World) (T : Tb w) (R : Tr w) (lv : Value) (l : List Nat) (hs : RdU w lv l) (hb : ∀ c ∈ l, c < 256) :
 Calls Tryz.prog 3 #[lv] w fun e w' => e = .returned (.bool true) ∧ Fr no w w' := by
 have KN := lKnown_any w T R
 have HK : Hid (∀ w', Fr no w w' → Tb w' ∧ Tr w') := fun w' hf => ⟨T.kept hf, Tr.kept R hf⟩
 obtain ⟨la, lc, rfl, hcap, hmx, h0, hit⟩ := hs
 have HIT : Hid (∀ (w' : World), Fr no w w' → ∀ (j : Nat) (c : Nat), l[j]? = some c → ∃ b o, la = some ⟨b, o, none⟩ ∧ w'.cell? ⟨b, o + j, none⟩ = some (.int .u8 (c : Int)) ∧ c < 256) := fun w' hf j c hc => by
  obtain ⟨b, o, e, hcc⟩ := hit j c hc
  exact ⟨b, o, e, hf.cell hcc (fun f => f), hb c (List.mem_of_getElem? hc)⟩
 clear T R hit hb h0
 by_cases hlen : 30 < l.length
 · have hl30 : (30 : Int) < (l.length : Int) := by omega
   have hmx' : l.length ≤ maxLen := by omega
   generalize l.length = n at *
   go_enter Tryz.func3, Tryz.ntmps3
   go_wp2_with fail
   refine KN.mono ?_
   rintro e w1 ⟨rfl, f1⟩
   go_wp2_with fail
   go_ret
   exact ⟨rfl, f1⟩
 · obtain ⟨res, lr, AK, LK, hd⟩ := ask_stack l (by omega)
   have HAK : Hid (Asked 8 2 tops (allCd (allS l).code) pool1 200 res) := AK
   have HLK : Hid (fitsP (allCd (allS l).code) 200 (comeP 0 [] (wk0 (allCd (allS l).code).length)).2 = some lr) := LK
   have HD : Hid (decide (lockE res.1 lr.1 = 0) = ((allS l).ok && decide ((allS l).held.length = 0))) := hd
   have hl30 : ¬ (30 : Int) < (l.length : Int) := by omega
   have HL30 : Hid (l.length ≤ 30) := by show l.length ≤ 30; omega
   clear AK LK hd hlen hmx hcap
   generalize hln : l.length = n at *
   go_enter Tryz.func3, Tryz.ntmps3
   go_wp2_with fail
   refine KN.mono ?_
   rintro e w1 ⟨rfl, f1⟩
   have HF1 : Hid (Fr no w w1) := f1
   clear KN f1
   go_wp2_with fail
   go_loopw [3, 4, 5, 6] (fun cv hv okv i wr => ∃ (j : Nat) (co : Option Addr) (cc : Nat) (ho : Option Addr) (hc m : Nat) (b : Bool), i = .int .i64 (j : Int) ∧ j ≤ n ∧ cv = .slice co j cc ∧ hv = .slice ho m hc ∧ okv = .bool b ∧ b = (allS (l.take j)).ok ∧ Two w1 wr (.slice co j cc) (allS (l.take j)).code (.slice ho m hc) (allS (l.take j)).held) (fun _ _ _ i _ => n - (intOf i).toNat)
   case atStart => exact ⟨0, none, 0, none, 0, 0, true, rfl, Nat.zero_le _, rfl, rfl, rfl, rfl, Row.nil w1, H.OwnG.nil _ _, NewV.nil _⟩
   case round =>
    obtain ⟨j, co, cc, ho, hc, m, b, rfl, hj, rfl, rfl, rfl, hbk, hT⟩ := hrel
    have hS := allS_ok (l.take j)
    have hjl : (l.take j).length = j := by rw [List.length_take]; omega
    rw [hjl] at hS
    generalize hst : allS (l.take j) = s at *
    obtain ⟨sc, sh, so⟩ := s
    simp only at hbk hT
    subst hbk
    have HT : Hid (Two w1 wr (.slice co j cc) sc (.slice ho m hc) sh) := hT
    have HM : Hid (m = sh.length) := hT.len
    have HLC : Hid (sc.length = j) := hS.len
    have HJ : Hid (j ≤ n ∧ n ≤ 30) := ⟨hj, HL30.out⟩
    have HRG : Hid (∀ k ∈ sh, 0 ≤ k ∧ k < 8) := hS.rng
    have hmj : m ≤ 30 := by have := hS.hln; have := HM.out; have := HL30.out; simp only at *; omega
    have HLKS : Hid (Lks sc) := hS.lks
    clear hT hS
    by_cases hlt : j < n
    · obtain ⟨c, hcj⟩ : ∃ c, l[j]? = some c := ⟨_, List.getElem?_eq_getElem (by omega)⟩
      obtain ⟨lb, lo, rfl, kc, hc256⟩ := HIT.out wr (HF1.out.new HT.out.1.2.2 (fun _ _ f => f)) j c hcj
      have HNX : Hid (allS (l.take (j + 1)) = stepS ⟨sc, sh, b⟩ c) := by show _ = _; rw [List.take_add_one, hcj]; show allS (l.take j ++ [c]) = _; rw [allS_snoc, hst]
      have hji : (j : Int) < (n : Int) := by omega
      have e1 : ((c : Int)).tdiv 2 = ((c / 2 : Nat) : Int) := by rw [Int.tdiv_eq_ediv_of_nonneg (by omega)]; omega
      have e2 : (((c / 2 : Nat) : Int)).tmod 8 = num8 c := by rw [Int.tmod_eq_emod_of_nonneg (by omega)]; unfold num8; omega
      have e3 : ((c : Int)).tmod 2 = ((c % 2 : Nat) : Int) := by rw [Int.tmod_eq_emod_of_nonneg (by omega)]; omega
      obtain ⟨n8a, n8b⟩ := num8_lt c
      have hd128 : c / 2 < 128 := by omega
      generalize hnn : num8 c = nn at *
      have HNN : Hid (num8 c = nn) := hnn
      clear hnn hcj
      by_cases hev : c % 2 = 0
      · have HEV : Hid (stepS ⟨sc, sh, b⟩ c = ⟨sc ++ [(38, nn)], sh ++ [nn], (b && allNe nn sh) && decide (sh.length + 1 ≤ 6)⟩) := by show _ = _; unfold stepS; rw [if_pos hev, HNN.out]
        rw [hev] at e3
        clear hev
        generalize c / 2 = c2 at *
        go_wp2_with (first | (at_builtin; refine wpList_apdG okIn _ rfl rfl _ _ rfl (.slice co j cc) sc rfl (HT.out.1.1.keep ((Fr.refl no wr).alloc _ _)) _ rfl [(38, nn)] (srcG_one okIn wr (38, nn)) (by simp) (by rw [HLC.out]; have := HJ.out; simp only [List.length_singleton]; omega) ?_; intro v' w3 o3 s3; obtain ⟨oo3, cc3, hv3⟩ := o3.form; have HT3 : Hid (Two w1 w3 v' (sc ++ [(38, nn)]) (.slice ho m hc) sh) := HT.out.code ((Fr.refl no wr).alloc _ _) o3 s3; clear o3 s3; rw [List.length_append, HLC.out, List.length_singleton] at hv3; subst hv3) | fail)
        go_loopw [5, 8] (fun okv k wr => ∃ (q : Nat) (bb : Bool), k = .int .i64 (q : Int) ∧ q ≤ m ∧ okv = .bool bb ∧ bb = (b && allNe nn (sh.take q)) ∧ w3 = wr) (fun _ k _ => m - (intOf k).toNat)
        case atStart => exact ⟨0, b, rfl, Nat.zero_le _, rfl, by simp [allNe], rfl⟩
        case round =>
         obtain ⟨q, bb, rfl, hq, rfl, hbb, rfl⟩ := hrel
         by_cases hqm : q < m
         · obtain ⟨x, hx⟩ : ∃ x, sh[q]? = some x := ⟨_, List.getElem?_eq_getElem (by have := HM.out; omega)⟩
           obtain ⟨hb', ho', rfl, cx, -⟩ := HT3.out.cell hx
           have hqi : (q : Int) < (m : Int) := by omega
           have HTK : Hid (allNe nn (sh.take (q + 1)) = (allNe nn (sh.take q) && decide (x ≠ nn))) := by show _ = _; rw [List.take_add_one, hx]; simp [allNe, List.all_append]
           have HBB : Hid (bb = (b && allNe nn (sh.take q))) := hbb
           clear hbb hx
           cases bb with
           | false =>
            go_wp2_with fail
            go_roundw
            case rel => exact ⟨q + 1, false, by go_num, by omega, rfl, by rw [HTK.out, ← Bool.and_assoc, ← HBB.out]; rfl, trivial⟩
            case measure => simp [intOf]; omega
           | true =>
            by_cases exn : x = nn
            · subst exn
              go_wp2_with fail
              go_roundw
              case rel => exact ⟨q + 1, false, by go_num, by omega, rfl, by rw [HTK.out, ← Bool.and_assoc, ← HBB.out]; simp, trivial⟩
              case measure => simp [intOf]; omega
            · go_wp2_with fail
              go_roundw
              case rel => exact ⟨q + 1, true, by go_num, by omega, by simp [exn], by rw [HTK.out, ← Bool.and_assoc, ← HBB.out]; simp [exn], trivial⟩
              case measure => simp [intOf]; omega
         · obtain rfl : q = m := by omega
           have hqi : ¬ (q : Int) < (q : Int) := by omega
           have HBB : Hid (bb = (b && allNe nn sh)) := by show bb = _; rw [hbb, HM.out, List.take_length]
           clear hbb hqm hq
           cases bb with
           | false =>
            go_wp2_with (first | (at_builtin; refine H.wpList_apdG elJ_ok _ rfl rfl _ _ rfl (.slice ho q hc) sh rfl (HT3.out.2.1.keep ((Fr.refl no w3).alloc _ _)) _ rfl [nn] (H.srcG_one elJ_ok w3 nn) (by rw [← HM.out]; simp only [List.length_singleton]; omega) ?_; intro v' w4 o4 s4; obtain ⟨oo4, cc4, hv4⟩ := o4.form; have HT4 : Hid (Two w1 w4 (.slice oo3 (j + 1) cc3) (sc ++ [(38, nn)]) v' (sh ++ [nn])) := HT3.out.held ((Fr.refl no w3).alloc _ _) o4 s4; clear o4 s4; rw [List.length_append, ← HM.out, List.length_singleton] at hv4; subst hv4) | fail)
            go_roundw
            case rel =>
             refine ⟨j + 1, oo3, cc3, oo4, cc4, q + 1, false, by go_num, by omega, rfl, rfl, rfl, ?_, ?_⟩
             · rw [HNX.out, HEV.out]
               show false = ((b && allNe nn sh) && decide (sh.length + 1 ≤ 6))
               rw [← HBB.out, ← HM.out]
               rfl
             · rw [HNX.out, HEV.out]
               exact HT4.out
            case measure => simp [intOf]; omega
           | true =>
            by_cases h6 : q + 1 ≤ 6
            · have h6i : (q : Int) + 1 ≤ 6 := by omega
              go_wp2_with (first | (at_builtin; refine H.wpList_apdG elJ_ok _ rfl rfl _ _ rfl (.slice ho q hc) sh rfl (HT3.out.2.1.keep ((Fr.refl no w3).alloc _ _)) _ rfl [nn] (H.srcG_one elJ_ok w3 nn) (by rw [← HM.out]; simp only [List.length_singleton]; omega) ?_; intro v' w4 o4 s4; obtain ⟨oo4, cc4, hv4⟩ := o4.form; have HT4 : Hid (Two w1 w4 (.slice oo3 (j + 1) cc3) (sc ++ [(38, nn)]) v' (sh ++ [nn])) := HT3.out.held ((Fr.refl no w3).alloc _ _) o4 s4; clear o4 s4; rw [List.length_append, ← HM.out, List.length_singleton] at hv4; subst hv4) | fail)
              go_roundw
              case rel =>
               refine ⟨j + 1, oo3, cc3, oo4, cc4, q + 1, true, by go_num, by omega, rfl, rfl, rfl, ?_, ?_⟩
               · rw [HNX.out, HEV.out]
                 show true = ((b && allNe nn sh) && decide (sh.length + 1 ≤ 6))
                 rw [← HBB.out, ← HM.out]
                 simp [h6]
               · rw [HNX.out, HEV.out]
                 exact HT4.out
              case measure => simp [intOf]; omega
            · have h6i : ¬ (q : Int) + 1 ≤ 6 := by omega
              go_wp2_with (first | (at_builtin; refine H.wpList_apdG elJ_ok _ rfl rfl _ _ rfl (.slice ho q hc) sh rfl (HT3.out.2.1.keep ((Fr.refl no w3).alloc _ _)) _ rfl [nn] (H.srcG_one elJ_ok w3 nn) (by rw [← HM.out]; simp only [List.length_singleton]; omega) ?_; intro v' w4 o4 s4; obtain ⟨oo4, cc4, hv4⟩ := o4.form; have HT4 : Hid (Two w1 w4 (.slice oo3 (j + 1) cc3) (sc ++ [(38, nn)]) v' (sh ++ [nn])) := HT3.out.held ((Fr.refl no w3).alloc _ _) o4 s4; clear o4 s4; rw [List.length_append, ← HM.out, List.length_singleton] at hv4; subst hv4) | fail)
              go_roundw
              case rel =>
               refine ⟨j + 1, oo3, cc3, oo4, cc4, q + 1, false, by go_num, by omega, rfl, rfl, rfl, ?_, ?_⟩
               · rw [HNX.out, HEV.out]
                 show false = ((b && allNe nn sh) && decide (sh.length + 1 ≤ 6))
                 rw [← HBB.out, ← HM.out]
                 simp [h6]
               · rw [HNX.out, HEV.out]
                 exact HT4.out
              case measure => simp [intOf]; omega
      · have e3' : ((c : Int)).tmod 2 = 1 := by rw [e3]; omega
        clear e3
        cases m with
        | zero =>
         have hsh : sh = [] := List.eq_nil_of_length_eq_zero HM.out.symm
         subst hsh
         have HOD : Hid (stepS ⟨sc, [], b⟩ c = ⟨sc ++ [(39, nn)], [], false⟩) := by show _ = _; unfold stepS; rw [if_neg hev]; simp [exN, HNN.out]
         clear hev
         generalize c / 2 = c2 at *
         cases b with
         | false =>
          go_wp2_with (first | (at_builtin; refine wpList_apdG okIn _ rfl rfl _ _ rfl (.slice co j cc) sc rfl (HT.out.1.1.keep ((Fr.refl no wr).alloc _ _)) _ rfl [(39, nn)] (srcG_one okIn wr (39, nn)) (by simp) (by rw [HLC.out]; have := HJ.out; simp only [List.length_singleton]; omega) ?_; intro v' w3 o3 s3; obtain ⟨oo3, cc3, hv3⟩ := o3.form; have HT3 : Hid (Two w1 w3 v' (sc ++ [(39, nn)]) (.slice ho 0 hc) []) := HT.out.code ((Fr.refl no wr).alloc _ _) o3 s3; clear o3 s3; rw [List.length_append, HLC.out, List.length_singleton] at hv3; subst hv3) | fail)
          go_roundw
          case rel =>
           refine ⟨j + 1, oo3, cc3, ho, hc, 0, false, by go_num, by omega, rfl, rfl, rfl, ?_, ?_⟩
           · rw [HNX.out, HOD.out]
           · rw [HNX.out, HOD.out]
             exact HT3.out
          case measure => simp [intOf]; omega
         | true =>
          go_wp2_with (first | (at_builtin; refine wpList_apdG okIn _ rfl rfl _ _ rfl (.slice co j cc) sc rfl (HT.out.1.1.keep ((Fr.refl no wr).alloc _ _)) _ rfl [(39, nn)] (srcG_one okIn wr (39, nn)) (by simp) (by rw [HLC.out]; have := HJ.out; simp only [List.length_singleton]; omega) ?_; intro v' w3 o3 s3; obtain ⟨oo3, cc3, hv3⟩ := o3.form; have HT3 : Hid (Two w1 w3 v' (sc ++ [(39, nn)]) (.slice ho 0 hc) []) := HT.out.code ((Fr.refl no wr).alloc _ _) o3 s3; clear o3 s3; rw [List.length_append, HLC.out, List.length_singleton] at hv3; subst hv3) | fail)
          go_roundw
          case rel =>
           refine ⟨j + 1, oo3, cc3, ho, hc, 0, false, by go_num, by omega, rfl, rfl, rfl, ?_, ?_⟩
           · rw [HNX.out, HOD.out]
           · rw [HNX.out, HOD.out]
             exact HT3.out
          case measure => simp [intOf]; omega
        | succ m =>
         obtain ⟨x, hx⟩ : ∃ x, sh[m]? = some x := ⟨_, List.getElem?_eq_getElem (by have := HM.out; omega)⟩
         have hgl : sh.getLast? = some x := by rw [List.getLast?_eq_getElem?, ← HM.out]; exact hx
         obtain ⟨x0, x7⟩ := HRG.out x (List.mem_of_getElem? hx)
         have hdl : sh.dropLast = sh.take m := by rw [List.dropLast_eq_take, ← HM.out]; rfl
         have hpos : 0 < sh.length := by rw [← HM.out]; omega
         by_cases h230 : 230 < c
         · have HOD : Hid (stepS ⟨sc, sh, b⟩ c = ⟨sc ++ [(39, (x + 1) % 8)], sh.take m, b && decide (x = (x + 1) % 8)⟩) := by show _ = _; unfold stepS; rw [if_neg hev]; simp [exN, lastI, hgl, h230, hdl, hpos]
           have h230i : (230 : Int) < (c : Int) := by omega
           have ey : (x + 1).tmod 8 = (x + 1) % 8 := Int.tmod_eq_emod_of_nonneg (by omega)
           have hyx : ¬ x = (x + 1) % 8 := by omega
           obtain ⟨hb', ho', rfl, cx, hcp⟩ := HT.out.cell hx
           have HCX : Hid (wr.cell? ⟨hb', ho' + m, none⟩ = some (.int .i64 x)) := cx
           have y0 : 0 ≤ (x + 1) % 8 := by omega
           have y8 : (x + 1) % 8 < 8 := by omega
           generalize (x + 1) % 8 = y at *
           have HXX : Hid (sh[m]? = some x) := hx
           clear hev hgl hdl hpos hx HCX
           generalize c / 2 = c2 at *
           cases b with
           | false =>
            go_wp2_with (first | (at_builtin; refine wpList_apdG okIn _ rfl rfl _ _ rfl (.slice co j cc) sc rfl (HT.out.1.1.keep ((Fr.refl no wr).alloc _ _)) _ rfl [(39, y)] (srcG_one okIn wr (39, y)) (by simp) (by rw [HLC.out]; have := HJ.out; simp only [List.length_singleton]; omega) ?_; intro v' w3 o3 s3; obtain ⟨oo3, cc3, hv3⟩ := o3.form; have HT3 : Hid (Two w1 w3 v' (sc ++ [(39, y)]) (.slice (some ⟨hb', ho', none⟩) (m + 1) hc) sh) := HT.out.code ((Fr.refl no wr).alloc _ _) o3 s3; clear o3 s3; rw [List.length_append, HLC.out, List.length_singleton] at hv3; subst hv3; obtain ⟨hb2, ho2, eq2, cx2, -⟩ := HT3.out.cell HXX.out; simp only [Option.some.injEq, Addr.mk.injEq, and_true] at eq2; obtain ⟨rfl, rfl⟩ := eq2) | fail)
            go_roundw
            case rel =>
             refine ⟨j + 1, oo3, cc3, some ⟨hb', ho', none⟩, hc, m, false, by go_num, by omega, rfl, rfl, rfl, ?_, ?_⟩
             · rw [HNX.out, HOD.out]
               rfl
             · rw [HNX.out, HOD.out]
               exact HT3.out.cut m (by rw [← HM.out]; omega)
            case measure => simp [intOf]; omega
           | true =>
            go_wp2_with (first | (at_builtin; refine wpList_apdG okIn _ rfl rfl _ _ rfl (.slice co j cc) sc rfl (HT.out.1.1.keep ((Fr.refl no wr).alloc _ _)) _ rfl [(39, y)] (srcG_one okIn wr (39, y)) (by simp) (by rw [HLC.out]; have := HJ.out; simp only [List.length_singleton]; omega) ?_; intro v' w3 o3 s3; obtain ⟨oo3, cc3, hv3⟩ := o3.form; have HT3 : Hid (Two w1 w3 v' (sc ++ [(39, y)]) (.slice (some ⟨hb', ho', none⟩) (m + 1) hc) sh) := HT.out.code ((Fr.refl no wr).alloc _ _) o3 s3; clear o3 s3; rw [List.length_append, HLC.out, List.length_singleton] at hv3; subst hv3; obtain ⟨hb2, ho2, eq2, cx2, -⟩ := HT3.out.cell HXX.out; simp only [Option.some.injEq, Addr.mk.injEq, and_true] at eq2; obtain ⟨rfl, rfl⟩ := eq2) | fail)
            go_roundw
            case rel =>
             refine ⟨j + 1, oo3, cc3, some ⟨hb', ho', none⟩, hc, m, false, by go_num, by omega, rfl, rfl, by simp [hyx], ?_, ?_⟩
             · rw [HNX.out, HOD.out]
               simp [hyx]
             · rw [HNX.out, HOD.out]
               exact HT3.out.cut m (by rw [← HM.out]; omega)
            case measure => simp [intOf]; omega
         · have HOD : Hid (stepS ⟨sc, sh, b⟩ c = ⟨sc ++ [(39, x)], sh.take m, b⟩) := by show _ = _; unfold stepS; rw [if_neg hev]; simp [exN, lastI, hgl, h230, hdl, hpos]
           have h230i : ¬ (230 : Int) < (c : Int) := by omega
           obtain ⟨hb', ho', rfl, cx, hcp⟩ := HT.out.cell hx
           have HXX : Hid (sh[m]? = some x) := hx
           clear hev hgl hdl hpos hx
           generalize c / 2 = c2 at *
           cases b with
           | false =>
            go_wp2_with (first | (at_builtin; refine wpList_apdG okIn _ rfl rfl _ _ rfl (.slice co j cc) sc rfl (HT.out.1.1.keep ((Fr.refl no wr).alloc _ _)) _ rfl [(39, x)] (srcG_one okIn wr (39, x)) (by simp) (by rw [HLC.out]; have := HJ.out; simp only [List.length_singleton]; omega) ?_; intro v' w3 o3 s3; obtain ⟨oo3, cc3, hv3⟩ := o3.form; have HT3 : Hid (Two w1 w3 v' (sc ++ [(39, x)]) (.slice (some ⟨hb', ho', none⟩) (m + 1) hc) sh) := HT.out.code ((Fr.refl no wr).alloc _ _) o3 s3; clear o3 s3; rw [List.length_append, HLC.out, List.length_singleton] at hv3; subst hv3; obtain ⟨hb2, ho2, eq2, cx2, -⟩ := HT3.out.cell HXX.out; simp only [Option.some.injEq, Addr.mk.injEq, and_true] at eq2; obtain ⟨rfl, rfl⟩ := eq2) | fail)
            go_roundw
            case rel =>
             refine ⟨j + 1, oo3, cc3, some ⟨hb', ho', none⟩, hc, m, false, by go_num, by omega, rfl, rfl, rfl, ?_, ?_⟩
             · rw [HNX.out, HOD.out]
             · rw [HNX.out, HOD.out]
               exact HT3.out.cut m (by rw [← HM.out]; omega)
            case measure => simp [intOf]; omega
           | true =>
            go_wp2_with (first | (at_builtin; refine wpList_apdG okIn _ rfl rfl _ _ rfl (.slice co j cc) sc rfl (HT.out.1.1.keep ((Fr.refl no wr).alloc _ _)) _ rfl [(39, x)] (srcG_one okIn wr (39, x)) (by simp) (by rw [HLC.out]; have := HJ.out; simp only [List.length_singleton]; omega) ?_; intro v' w3 o3 s3; obtain ⟨oo3, cc3, hv3⟩ := o3.form; have HT3 : Hid (Two w1 w3 v' (sc ++ [(39, x)]) (.slice (some ⟨hb', ho', none⟩) (m + 1) hc) sh) := HT.out.code ((Fr.refl no wr).alloc _ _) o3 s3; clear o3 s3; rw [List.length_append, HLC.out, List.length_singleton] at hv3; subst hv3; obtain ⟨hb2, ho2, eq2, cx2, -⟩ := HT3.out.cell HXX.out; simp only [Option.some.injEq, Addr.mk.injEq, and_true] at eq2; obtain ⟨rfl, rfl⟩ := eq2) | fail)
            go_roundw
            case rel =>
             refine ⟨j + 1, oo3, cc3, some ⟨hb', ho', none⟩, hc, m, true, by go_num, by omega, rfl, rfl, rfl, ?_, ?_⟩
             · rw [HNX.out, HOD.out]
             · rw [HNX.out, HOD.out]
               exact HT3.out.cut m (by rw [← HM.out]; omega)
            case measure => simp [intOf]; omega
    · obtain rfl : j = n := by omega
      have hji : ¬ (j : Int) < (j : Int) := by omega
      have hall : allS l = ⟨sc, sh, b⟩ := by rw [← hst, ← hln, List.take_length]
      rw [hall] at HAK HLK HD
      have F5 : Fr no w wr := HF1.out.new HT.out.1.2.2 (fun _ _ f => f)
      have GD := good_any wr (HK.out wr F5).1 (HK.out wr F5).2 co j cc sc (HT.out.1.1.sl okIn) (by rw [HLC.out]; have := HJ.out; omega) (fun x hx => by have := (HLKS.out x hx).2; omega) 200 200 res lr HAK.out HLK.out
      rw [HD.out] at GD
      have HF5 : Hid (Fr no w wr) := F5
      simp only at GD
      rw [← HM.out] at GD
      clear F5 HAK HLK HD hall hst hlt HT HLC HRG HLKS HIT
      cases b with
      | false =>
       go_wp2_with fail
       refine GD.mono ?_
       rintro e w5 ⟨rfl, f5⟩
       go_wp2_with fail
       go_ret
       exact ⟨by simp, HF5.out.new f5 (fun _ _ f => f)⟩
      | true =>
       by_cases hm0 : m = 0
       · subst hm0
         go_wp2_with fail
         refine GD.mono ?_
         rintro e w5 ⟨rfl, f5⟩
         go_wp2_with fail
         go_ret
         exact ⟨by simp, HF5.out.new f5 (fun _ _ f => f)⟩
       · rw [decide_eq_false hm0] at GD
         have hm0i : ¬ (m : Int) = 0 := by omega
         go_wp2_with fail
         refine GD.mono ?_
         rintro e w5 ⟨rfl, f5⟩
         go_wp2_with fail
         go_ret
         exact ⟨by simp [hm0], HF5.out.new f5 (fun _ _ f => f)⟩
end Go.Proofs.YtalgjpmaafooeaaGreatDoor
