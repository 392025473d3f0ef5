/- Keywords, and the head of a text, of the program's lexer. -/
import Derived.Test.YtmpahllkbpofnaaPa
import Derived.Laws.Strings
namespace Go.Proofs.Ytmpahllkbpofnaa
open Go.ChangeShapes Go.WideShapes Go.ChangeAt Go.RowKit

theorem isWord_eq (s : ByteArray) : isWord s = ((s.toList == [99, 108, 97, 115, 115]) || ((s.toList == [101, 120, 116, 101, 110, 100, 115]) || ((s.toList == [118, 111, 108, 97, 116, 105, 108, 101]) || ((s.toList == [105, 110, 116]) || ((s.toList == [99, 112, 120]) || ((s.toList == [105, 110, 116, 115]) || ((s.toList == [118, 111, 105, 100]) || ((s.toList == [105, 102]) || ((s.toList == [101, 108, 115, 101]) || ((s.toList == [119, 104, 105, 108, 101]) || ((s.toList == [114, 101, 116, 117, 114, 110]) || ((s.toList == [116, 104, 114, 111, 119]) || ((s.toList == [116, 114, 121]) || ((s.toList == [99, 97, 116, 99, 104]) || ((s.toList == [115, 121, 110, 99]) || ((s.toList == [119, 97, 105, 116]) || ((s.toList == [110, 111, 116, 105, 102, 121]) || ((s.toList == [110, 111, 116, 105, 102, 121, 97, 108, 108]) || ((s.toList == [121, 105, 101, 108, 100]) || ((s.toList == [106, 111, 105, 110]) || ((s.toList == [111, 117, 116]) || ((s.toList == [110, 117, 108, 108]) || ((s.toList == [116, 104, 105, 115]) || ((s.toList == [110, 101, 119]) || ((s.toList == [115, 112, 97, 119, 110]) || ((s.toList == [97, 115]) || ((s.toList == [105, 115])))))))))))))))))))))))))))) := by
  have e : ∀ l : List UInt8, (l == s.data.toList) = (s.data.toList == l) := fun l => Bool.beq_comm
  simp only [isWord, wordL, List.any_cons, List.any_nil, Bool.or_false, ByteArray.toList_eq, e]

set_option maxRecDepth 100000 in
set_option maxHeartbeats 4000000 in
theorem pWord (w : World) (s : ByteArray) : Calls Try.prog 12 #[.string s] w fun e w' => e = .returned (.bool (isWord s)) ∧ w' = w := by
  have HW : Hid _ := isWord_eq s
  generalize isWord s = r at *
  cases h0 : (s.toList == [99, 108, 97, 115, 115])
  case true =>
    obtain rfl : r = true := by
      rw [HW.out, h0]
      simp only [Bool.true_or]
    clear HW
    go_enter Try.func12, Try.ntmps12
    go_wp2_with fail
    go_ret
    exact ⟨rfl, rfl⟩
  case false =>
   cases h1 : (s.toList == [101, 120, 116, 101, 110, 100, 115])
   case true =>
     obtain rfl : r = true := by
       rw [HW.out, h0, h1]
       simp only [Bool.true_or, Bool.false_or]
     clear HW
     go_enter Try.func12, Try.ntmps12
     go_wp2_with fail
     go_ret
     exact ⟨rfl, rfl⟩
   case false =>
    cases h2 : (s.toList == [118, 111, 108, 97, 116, 105, 108, 101])
    case true =>
      obtain rfl : r = true := by
        rw [HW.out, h0, h1, h2]
        simp only [Bool.true_or, Bool.false_or]
      clear HW
      go_enter Try.func12, Try.ntmps12
      go_wp2_with fail
      go_ret
      exact ⟨rfl, rfl⟩
    case false =>
     cases h3 : (s.toList == [105, 110, 116])
     case true =>
       obtain rfl : r = true := by
         rw [HW.out, h0, h1, h2, h3]
         simp only [Bool.true_or, Bool.false_or]
       clear HW
       go_enter Try.func12, Try.ntmps12
       go_wp2_with fail
       go_ret
       exact ⟨rfl, rfl⟩
     case false =>
      cases h4 : (s.toList == [99, 112, 120])
      case true =>
        obtain rfl : r = true := by
          rw [HW.out, h0, h1, h2, h3, h4]
          simp only [Bool.true_or, Bool.false_or]
        clear HW
        go_enter Try.func12, Try.ntmps12
        go_wp2_with fail
        go_ret
        exact ⟨rfl, rfl⟩
      case false =>
       cases h5 : (s.toList == [105, 110, 116, 115])
       case true =>
         obtain rfl : r = true := by
           rw [HW.out, h0, h1, h2, h3, h4, h5]
           simp only [Bool.true_or, Bool.false_or]
         clear HW
         go_enter Try.func12, Try.ntmps12
         go_wp2_with fail
         go_ret
         exact ⟨rfl, rfl⟩
       case false =>
        cases h6 : (s.toList == [118, 111, 105, 100])
        case true =>
          obtain rfl : r = true := by
            rw [HW.out, h0, h1, h2, h3, h4, h5, h6]
            simp only [Bool.true_or, Bool.false_or]
          clear HW
          go_enter Try.func12, Try.ntmps12
          go_wp2_with fail
          go_ret
          exact ⟨rfl, rfl⟩
        case false =>
         cases h7 : (s.toList == [105, 102])
         case true =>
           obtain rfl : r = true := by
             rw [HW.out, h0, h1, h2, h3, h4, h5, h6, h7]
             simp only [Bool.true_or, Bool.false_or]
           clear HW
           go_enter Try.func12, Try.ntmps12
           go_wp2_with fail
           go_ret
           exact ⟨rfl, rfl⟩
         case false =>
          cases h8 : (s.toList == [101, 108, 115, 101])
          case true =>
            obtain rfl : r = true := by
              rw [HW.out, h0, h1, h2, h3, h4, h5, h6, h7, h8]
              simp only [Bool.true_or, Bool.false_or]
            clear HW
            go_enter Try.func12, Try.ntmps12
            go_wp2_with fail
            go_ret
            exact ⟨rfl, rfl⟩
          case false =>
           cases h9 : (s.toList == [119, 104, 105, 108, 101])
           case true =>
             obtain rfl : r = true := by
               rw [HW.out, h0, h1, h2, h3, h4, h5, h6, h7, h8, h9]
               simp only [Bool.true_or, Bool.false_or]
             clear HW
             go_enter Try.func12, Try.ntmps12
             go_wp2_with fail
             go_ret
             exact ⟨rfl, rfl⟩
           case false =>
            cases h10 : (s.toList == [114, 101, 116, 117, 114, 110])
            case true =>
              obtain rfl : r = true := by
                rw [HW.out, h0, h1, h2, h3, h4, h5, h6, h7, h8, h9, h10]
                simp only [Bool.true_or, Bool.false_or]
              clear HW
              go_enter Try.func12, Try.ntmps12
              go_wp2_with fail
              go_ret
              exact ⟨rfl, rfl⟩
            case false =>
             cases h11 : (s.toList == [116, 104, 114, 111, 119])
             case true =>
               obtain rfl : r = true := by
                 rw [HW.out, h0, h1, h2, h3, h4, h5, h6, h7, h8, h9, h10, h11]
                 simp only [Bool.true_or, Bool.false_or]
               clear HW
               go_enter Try.func12, Try.ntmps12
               go_wp2_with fail
               go_ret
               exact ⟨rfl, rfl⟩
             case false =>
              cases h12 : (s.toList == [116, 114, 121])
              case true =>
                obtain rfl : r = true := by
                  rw [HW.out, h0, h1, h2, h3, h4, h5, h6, h7, h8, h9, h10, h11, h12]
                  simp only [Bool.true_or, Bool.false_or]
                clear HW
                go_enter Try.func12, Try.ntmps12
                go_wp2_with fail
                go_ret
                exact ⟨rfl, rfl⟩
              case false =>
               cases h13 : (s.toList == [99, 97, 116, 99, 104])
               case true =>
                 obtain rfl : r = true := by
                   rw [HW.out, h0, h1, h2, h3, h4, h5, h6, h7, h8, h9, h10, h11, h12, h13]
                   simp only [Bool.true_or, Bool.false_or]
                 clear HW
                 go_enter Try.func12, Try.ntmps12
                 go_wp2_with fail
                 go_ret
                 exact ⟨rfl, rfl⟩
               case false =>
                cases h14 : (s.toList == [115, 121, 110, 99])
                case true =>
                  obtain rfl : r = true := by
                    rw [HW.out, h0, h1, h2, h3, h4, h5, h6, h7, h8, h9, h10, h11, h12, h13, h14]
                    simp only [Bool.true_or, Bool.false_or]
                  clear HW
                  go_enter Try.func12, Try.ntmps12
                  go_wp2_with fail
                  go_ret
                  exact ⟨rfl, rfl⟩
                case false =>
                 cases h15 : (s.toList == [119, 97, 105, 116])
                 case true =>
                   obtain rfl : r = true := by
                     rw [HW.out, h0, h1, h2, h3, h4, h5, h6, h7, h8, h9, h10, h11, h12, h13, h14, h15]
                     simp only [Bool.true_or, Bool.false_or]
                   clear HW
                   go_enter Try.func12, Try.ntmps12
                   go_wp2_with fail
                   go_ret
                   exact ⟨rfl, rfl⟩
                 case false =>
                  cases h16 : (s.toList == [110, 111, 116, 105, 102, 121])
                  case true =>
                    obtain rfl : r = true := by
                      rw [HW.out, h0, h1, h2, h3, h4, h5, h6, h7, h8, h9, h10, h11, h12, h13, h14, h15, h16]
                      simp only [Bool.true_or, Bool.false_or]
                    clear HW
                    go_enter Try.func12, Try.ntmps12
                    go_wp2_with fail
                    go_ret
                    exact ⟨rfl, rfl⟩
                  case false =>
                   cases h17 : (s.toList == [110, 111, 116, 105, 102, 121, 97, 108, 108])
                   case true =>
                     obtain rfl : r = true := by
                       rw [HW.out, h0, h1, h2, h3, h4, h5, h6, h7, h8, h9, h10, h11, h12, h13, h14, h15, h16, h17]
                       simp only [Bool.true_or, Bool.false_or]
                     clear HW
                     go_enter Try.func12, Try.ntmps12
                     go_wp2_with fail
                     go_ret
                     exact ⟨rfl, rfl⟩
                   case false =>
                    cases h18 : (s.toList == [121, 105, 101, 108, 100])
                    case true =>
                      obtain rfl : r = true := by
                        rw [HW.out, h0, h1, h2, h3, h4, h5, h6, h7, h8, h9, h10, h11, h12, h13, h14, h15, h16, h17, h18]
                        simp only [Bool.true_or, Bool.false_or]
                      clear HW
                      go_enter Try.func12, Try.ntmps12
                      go_wp2_with fail
                      go_ret
                      exact ⟨rfl, rfl⟩
                    case false =>
                     cases h19 : (s.toList == [106, 111, 105, 110])
                     case true =>
                       obtain rfl : r = true := by
                         rw [HW.out, h0, h1, h2, h3, h4, h5, h6, h7, h8, h9, h10, h11, h12, h13, h14, h15, h16, h17, h18, h19]
                         simp only [Bool.true_or, Bool.false_or]
                       clear HW
                       go_enter Try.func12, Try.ntmps12
                       go_wp2_with fail
                       go_ret
                       exact ⟨rfl, rfl⟩
                     case false =>
                      cases h20 : (s.toList == [111, 117, 116])
                      case true =>
                        obtain rfl : r = true := by
                          rw [HW.out, h0, h1, h2, h3, h4, h5, h6, h7, h8, h9, h10, h11, h12, h13, h14, h15, h16, h17, h18, h19, h20]
                          simp only [Bool.true_or, Bool.false_or]
                        clear HW
                        go_enter Try.func12, Try.ntmps12
                        go_wp2_with fail
                        go_ret
                        exact ⟨rfl, rfl⟩
                      case false =>
                       cases h21 : (s.toList == [110, 117, 108, 108])
                       case true =>
                         obtain rfl : r = true := by
                           rw [HW.out, h0, h1, h2, h3, h4, h5, h6, h7, h8, h9, h10, h11, h12, h13, h14, h15, h16, h17, h18, h19, h20, h21]
                           simp only [Bool.true_or, Bool.false_or]
                         clear HW
                         go_enter Try.func12, Try.ntmps12
                         go_wp2_with fail
                         go_ret
                         exact ⟨rfl, rfl⟩
                       case false =>
                        cases h22 : (s.toList == [116, 104, 105, 115])
                        case true =>
                          obtain rfl : r = true := by
                            rw [HW.out, h0, h1, h2, h3, h4, h5, h6, h7, h8, h9, h10, h11, h12, h13, h14, h15, h16, h17, h18, h19, h20, h21, h22]
                            simp only [Bool.true_or, Bool.false_or]
                          clear HW
                          go_enter Try.func12, Try.ntmps12
                          go_wp2_with fail
                          go_ret
                          exact ⟨rfl, rfl⟩
                        case false =>
                         cases h23 : (s.toList == [110, 101, 119])
                         case true =>
                           obtain rfl : r = true := by
                             rw [HW.out, h0, h1, h2, h3, h4, h5, h6, h7, h8, h9, h10, h11, h12, h13, h14, h15, h16, h17, h18, h19, h20, h21, h22, h23]
                             simp only [Bool.true_or, Bool.false_or]
                           clear HW
                           go_enter Try.func12, Try.ntmps12
                           go_wp2_with fail
                           go_ret
                           exact ⟨rfl, rfl⟩
                         case false =>
                          cases h24 : (s.toList == [115, 112, 97, 119, 110])
                          case true =>
                            obtain rfl : r = true := by
                              rw [HW.out, h0, h1, h2, h3, h4, h5, h6, h7, h8, h9, h10, h11, h12, h13, h14, h15, h16, h17, h18, h19, h20, h21, h22, h23, h24]
                              simp only [Bool.true_or, Bool.false_or]
                            clear HW
                            go_enter Try.func12, Try.ntmps12
                            go_wp2_with fail
                            go_ret
                            exact ⟨rfl, rfl⟩
                          case false =>
                           cases h25 : (s.toList == [97, 115])
                           case true =>
                             obtain rfl : r = true := by
                               rw [HW.out, h0, h1, h2, h3, h4, h5, h6, h7, h8, h9, h10, h11, h12, h13, h14, h15, h16, h17, h18, h19, h20, h21, h22, h23, h24, h25]
                               simp only [Bool.true_or, Bool.false_or]
                             clear HW
                             go_enter Try.func12, Try.ntmps12
                             go_wp2_with fail
                             go_ret
                             exact ⟨rfl, rfl⟩
                           case false =>
                            cases h26 : (s.toList == [105, 115])
                            case true =>
                              obtain rfl : r = true := by
                                rw [HW.out, h0, h1, h2, h3, h4, h5, h6, h7, h8, h9, h10, h11, h12, h13, h14, h15, h16, h17, h18, h19, h20, h21, h22, h23, h24, h25, h26]
                                simp only [Bool.false_or]
                              clear HW
                              go_enter Try.func12, Try.ntmps12
                              go_wp2_with fail
                              go_ret
                              exact ⟨rfl, rfl⟩
                            case false =>
                             obtain rfl : r = false := by
                               rw [HW.out, h0, h1, h2, h3, h4, h5, h6, h7, h8, h9, h10, h11, h12, h13, h14, h15, h16, h17, h18, h19, h20, h21, h22, h23, h24, h25, h26]
                               simp only [Bool.or_self]
                             clear HW
                             go_enter Try.func12, Try.ntmps12
                             go_wp2_with fail
                             go_ret
                             exact ⟨rfl, rfl⟩

set_option maxRecDepth 100000 in
theorem head23 (w : World) (t : ByteArray) (ht : t.size ≤ 100000) : Calls Try.prog 19 #[.string t, .func (.func 23) #[] #[]] w fun e w' => e = .returned (.string (headT digitB t)) ∧ w' = w := by
  go_enter Try.func19, Try.ntmps19
  go_wp2_with fail
  go_loopw [5] (fun i wr => wr = w ∧ ∃ k : Nat, i = .int .i64 (k : Int) ∧ k ≤ t.size ∧ Hid (∀ j, j < k → digitB ((nl t).getD j 0) = true)) (fun i _ => t.size - (intOf i).toNat)
  case atStart => exact ⟨rfl, 0, rfl, by omega, fun j h => by omega⟩
  case round =>
    obtain ⟨rfl, k, rfl, hk, HK⟩ := hrel
    have hk0 : (0 : Int) ≤ (k : Int) := by omega
    by_cases hlt : k < t.size
    · have hlt' : (k : Int) < (t.size : Int) := by omega
      have D := pDigit wr t[k].toNat
      cases hd : digitB t[k].toNat
      · rw [hd] at D
        have HT : Hid (headT digitB t = t.extract 0 k) := by
          show _ = _
          unfold headT
          rw [tw_at hlt HK.out hd]
        have hk1 : (k : Int) ≤ (t.size : Int) := by omega
        go_wp2_with fail
        refine D.mono ?_
        rintro _ _ ⟨rfl, rfl⟩
        go_wp2_with fail
        go_ret
        exact ⟨by rw [HT.out]; rfl, rfl⟩
      · rw [hd] at D
        have HK2 : Hid (∀ j, j < k + 1 → digitB ((nl t).getD j 0) = true) := by
          intro j hj
          rcases Nat.lt_succ_iff_lt_or_eq.1 hj with h | rfl
          · exact HK.out j h
          · rw [List.getD_eq_getElem?_getD, nl_get t j hlt, Option.getD_some]
            exact hd
        go_wp2_with fail
        refine D.mono ?_
        rintro _ _ ⟨rfl, rfl⟩
        go_wp2_with fail
        go_roundw
        case rel => exact ⟨trivial, k + 1, by congr 1, by omega, HK2.out⟩
        case measure => simp [intOf]; omega
    · obtain rfl : k = t.size := by omega
      have HT : Hid (headT digitB t = t) := by
        show _ = _
        unfold headT
        rw [tw_whole HK.out]
        simp
      clear hlt hk
      go_wp2_with fail
      go_ret
      exact ⟨by rw [HT.out]; rfl, rfl⟩

set_option maxRecDepth 100000 in
theorem head37 (w : World) (t : ByteArray) (ht : t.size ≤ 100000) : Calls Try.prog 19 #[.string t, .func (.func 37) #[] #[]] w fun e w' => e = .returned (.string (headT Y.letN t)) ∧ w' = w := by
  go_enter Try.func19, Try.ntmps19
  go_wp2_with fail
  go_loopw [5] (fun i wr => wr = w ∧ ∃ k : Nat, i = .int .i64 (k : Int) ∧ k ≤ t.size ∧ Hid (∀ j, j < k → Y.letN ((nl t).getD j 0) = true)) (fun i _ => t.size - (intOf i).toNat)
  case atStart => exact ⟨rfl, 0, rfl, by omega, fun j h => by omega⟩
  case round =>
    obtain ⟨rfl, k, rfl, hk, HK⟩ := hrel
    have hk0 : (0 : Int) ≤ (k : Int) := by omega
    by_cases hlt : k < t.size
    · have hlt' : (k : Int) < (t.size : Int) := by omega
      have D := pName wr t[k].toNat
      cases hd : Y.letN t[k].toNat
      · rw [hd] at D
        have HT : Hid (headT Y.letN t = t.extract 0 k) := by
          show _ = _
          unfold headT
          rw [tw_at hlt HK.out hd]
        have hk1 : (k : Int) ≤ (t.size : Int) := by omega
        go_wp2_with fail
        refine D.mono ?_
        rintro _ _ ⟨rfl, rfl⟩
        go_wp2_with fail
        go_ret
        exact ⟨by rw [HT.out]; rfl, rfl⟩
      · rw [hd] at D
        have HK2 : Hid (∀ j, j < k + 1 → Y.letN ((nl t).getD j 0) = true) := by
          intro j hj
          rcases Nat.lt_succ_iff_lt_or_eq.1 hj with h | rfl
          · exact HK.out j h
          · rw [List.getD_eq_getElem?_getD, nl_get t j hlt, Option.getD_some]
            exact hd
        go_wp2_with fail
        refine D.mono ?_
        rintro _ _ ⟨rfl, rfl⟩
        go_wp2_with fail
        go_roundw
        case rel => exact ⟨trivial, k + 1, by congr 1, by omega, HK2.out⟩
        case measure => simp [intOf]; omega
    · obtain rfl : k = t.size := by omega
      have HT : Hid (headT Y.letN t = t) := by
        show _ = _
        unfold headT
        rw [tw_whole HK.out]
        simp
      clear hlt hk
      go_wp2_with fail
      go_ret
      exact ⟨by rw [HT.out]; rfl, rfl⟩

set_option maxRecDepth 100000 in
theorem head20 (w : World) (t : ByteArray) (ht : t.size ≤ 100000) : Calls Try.prog 19 #[.string t, .func (.func 20) #[] #[]] w fun e w' => e = .returned (.string (headT Y.notNl t)) ∧ w' = w := by
  go_enter Try.func19, Try.ntmps19
  go_wp2_with fail
  go_loopw [5] (fun i wr => wr = w ∧ ∃ k : Nat, i = .int .i64 (k : Int) ∧ k ≤ t.size ∧ Hid (∀ j, j < k → Y.notNl ((nl t).getD j 0) = true)) (fun i _ => t.size - (intOf i).toNat)
  case atStart => exact ⟨rfl, 0, rfl, by omega, fun j h => by omega⟩
  case round =>
    obtain ⟨rfl, k, rfl, hk, HK⟩ := hrel
    have hk0 : (0 : Int) ≤ (k : Int) := by omega
    by_cases hlt : k < t.size
    · have hlt' : (k : Int) < (t.size : Int) := by omega
      have D := pLine wr t[k].toNat
      cases hd : Y.notNl t[k].toNat
      · rw [hd] at D
        have HT : Hid (headT Y.notNl t = t.extract 0 k) := by
          show _ = _
          unfold headT
          rw [tw_at hlt HK.out hd]
        have hk1 : (k : Int) ≤ (t.size : Int) := by omega
        go_wp2_with fail
        refine D.mono ?_
        rintro _ _ ⟨rfl, rfl⟩
        go_wp2_with fail
        go_ret
        exact ⟨by rw [HT.out]; rfl, rfl⟩
      · rw [hd] at D
        have HK2 : Hid (∀ j, j < k + 1 → Y.notNl ((nl t).getD j 0) = true) := by
          intro j hj
          rcases Nat.lt_succ_iff_lt_or_eq.1 hj with h | rfl
          · exact HK.out j h
          · rw [List.getD_eq_getElem?_getD, nl_get t j hlt, Option.getD_some]
            exact hd
        go_wp2_with fail
        refine D.mono ?_
        rintro _ _ ⟨rfl, rfl⟩
        go_wp2_with fail
        go_roundw
        case rel => exact ⟨trivial, k + 1, by congr 1, by omega, HK2.out⟩
        case measure => simp [intOf]; omega
    · obtain rfl : k = t.size := by omega
      have HT : Hid (headT Y.notNl t = t) := by
        show _ = _
        unfold headT
        rw [tw_whole HK.out]
        simp
      clear hlt hk
      go_wp2_with fail
      go_ret
      exact ⟨by rw [HT.out]; rfl, rfl⟩
end Go.Proofs.Ytmpahllkbpofnaa
