/- For all bytes and every row of items the statement WireReads returns true, and its arguments read as before. -/
import Derived.Test.YtcgkifiijjmaiaaRows
import Derived.Test.YtcgkifiijjmaiaaItems
import Derived.Test.YtcgkifiijjmaiaaReadCplx
import Derived.WalkKit
import Derived.ProofKit
import Derived.OpenShut
import Derived.ShutString
namespace Go.Proofs.Ytcgkifiijjmaiaa.wireReads
open Go.ChangeShapes Go.WideShapes Go.ChangeAt Go.RowKit

theorem own : ownKnob Try.prog.godebug = none := by kernel_rfl

section
variable {H : Type} {enc : TypeId × Value → H} {w : World} {spare : Nat → Bool} {held : Bool}
theorem Try.cells5 : Try.prog.cellsOf 5 = 1 := by kernel_rfl
theorem open_bytes {v : Value} {d : DataW H} {ps : List MemPlace} (hv : ∃ a len cap, v = .slice a len cap) (h : DataW.Trod enc Try.prog w 0 spare held 26 v d ps) : ∃ bs : List Nat, (∀ c ∈ bs, c < 256) ∧ Sl w v bs := by
  obtain ⟨a0, len0, cap0, rfl⟩ := hv
  obtain ⟨fuel, h⟩ := h
  rcases open_ints Try.underlying26 Try.underlying5 Try.cells5 h with ⟨e, _⟩ | ⟨a, len, cap, zs, e, _, hl, hm, hz, _, hc, hw⟩
  · have e' : Value.slice a0 len0 cap0 = .slice none 0 0 := by simpa [Value.cells] using e
    rw [e']
    exact ⟨[], fun c hc => by simp at hc, .inr ⟨rfl, _, _, rfl, Nat.zero_le _, fun _ => rfl⟩⟩
  · have e' : Value.slice a0 len0 cap0 = .slice (some a) len cap := by simpa [Value.cells] using e
    rw [e']
    cases hz0 : len with
    | zero => exact ⟨[], fun c hc => by simp at hc, .inr ⟨rfl, _, cap, rfl, hm, fun h => by simp at h⟩⟩
    | succ k =>
      rw [← hz0]
      have hlz : len ≤ zs.length := by rw [hz]; split <;> omega
      obtain ⟨b, o, spot⟩ := a
      have hspot : spot = none := by
        have h0 := hc 0 (by omega)
        simpa [Addr.add] using World.cell?_spot h0
      subst hspot
      have hb : ∀ z ∈ zs, 0 ≤ z ∧ z ≤ 255 := fun z hz => by simpa [Lit.wf, IntKind.min, IntKind.max, IntKind.signed, IntKind.bits] using hw z hz
      refine ⟨(zs.take len).map Int.toNat, fun c hc' => ?_, .inl ⟨b, o, cap, by simp; omega, by simp; omega, hm, fun i c hi => ?_⟩⟩
      · obtain ⟨z, hz1, rfl⟩ := List.mem_map.1 hc'
        have := hb z (List.mem_of_mem_take hz1)
        omega
      · rw [List.getElem?_map, List.getElem?_take] at hi
        split at hi
        · rename_i hil
          have hil' : i < zs.length := by omega
          have h1 := hc i hil'
          rw [Addr.add_lit] at h1
          rw [List.getElem?_eq_getElem hil'] at hi
          simp at hi
          rw [h1]
          have h2 := hb zs[i] (List.getElem_mem hil')
          have e3 : zs.getD i 0 = (c : Int) := by rw [List.getD_eq_getElem?_getD, List.getElem?_eq_getElem hil', Option.getD_some]; omega
          rw [e3]
        · simp at hi
end

/-- The two readers, of the same bytes. -/
structure SS (w0 w : World) (p q : Nat) (l m : List Nat) : Prop where
  r : Rd 91 w p l
  m : Rd 47 w q m
  hp : w0.heap.size ≤ p
  hq : w0.heap.size ≤ q
  ne : p ≠ q
  fr : Fr no w0 w

theorem SS.stepR {w0 w w' : World} {p q : Nat} {l m l' : List Nat} (h : SS w0 w p q l m) (h1 : Rd 91 w' p l') (hf : Fr (fun k => k = p) w w') : SS w0 w' p q l' m :=
  ⟨h1, h.m.kept hf (fun e => h.ne e.symm) (fun k c hk e => h.r.apart k c hk e), h.hp, h.hq, h.ne, h.fr.new hf (fun i hi e => by have := h.hp; omega)⟩

theorem SS.stepM {w0 w w' : World} {p q : Nat} {l m m' : List Nat} (h : SS w0 w p q l m) (h1 : Rd 47 w' q m') (hf : Fr (fun k => k = q) w w') : SS w0 w' p q l m' :=
  ⟨h.r.kept hf (fun e => h.ne e) (fun k c hk e => h.m.apart k c hk e), h1, h.hp, h.hq, h.ne, h.fr.new hf (fun i hi e => by have := h.hq; omega)⟩

theorem SS.kept {w0 w w' : World} {p q : Nat} {l m : List Nat} (h : SS w0 w p q l m) (hf : Fr no w w') : SS w0 w' p q l m :=
  ⟨h.r.kept hf (fun f => f) (fun _ _ _ f => f), h.m.kept hf (fun f => f) (fun _ _ _ f => f), h.hp, h.hq, h.ne, h.fr.new hf (fun _ _ f => f)⟩

theorem SS.cellM {w0 w : World} {p q : Nat} {l m : List Nat} (h : SS w0 w p q l m) : ∃ o n cap, w.cell? ⟨q, 0, none⟩ = some (.slice o n cap) ∧ n = m.length := by
  obtain ⟨v, h1, h2⟩ := h.m
  obtain ⟨o, cap, rfl, _⟩ := h2.shape
  exact ⟨o, _, cap, cell_of_one h1, rfl⟩

set_option maxRecDepth 100000 in
set_option maxHeartbeats 8000000 in
theorem walk (u v : Value) (bs : List Nat) (L : List It) (w : World) (hu : Sl w u bs) (hbs : ∀ c ∈ bs, c < 256) (h : IsItems w v L) : Calls Try.prog 4 #[u, v] w fun e w' => e = .returned (.bool true) ∧ Fr no w w' := by
  obtain ⟨ad, cap, rfl, hcap, hmx, hit⟩ := h
  unfold maxLen at hmx
  have HI : Hid (∀ (i : Nat) (x : It), L[i]? = some x → ∃ b off, ad = some ⟨b, off, none⟩ ∧ ItemAt w b (off + i * 6) x) := hit
  clear hit
  obtain ⟨uo, uc, rfl, _⟩ := hu.shape
  by_cases h500 : 500 < bs.length
  · go_enter Try.func4, Try.ntmps4
    go_wp2_with fail
    refine (known_any w).mono ?_
    rintro e w1 ⟨rfl, f1⟩
    go_wp2_with fail
    go_ret
    exact ⟨rfl, f1⟩
  by_cases h40 : 40 < L.length
  · go_enter Try.func4, Try.ntmps4
    go_wp2_with fail
    refine (known_any w).mono ?_
    rintro e w1 ⟨rfl, f1⟩
    go_wp2_with fail
    go_ret
    exact ⟨rfl, f1⟩
  · have HU : Hid (Sl w (.slice uo bs.length uc) bs) := hu
    clear hu
    go_enter Try.func4, Try.ntmps4
    go_wp2_with fail
    refine (known_any w).mono ?_
    rintro e w1 ⟨rfl, f1⟩
    have hs1 := (HU.out.kept f1 (fun _ _ _ f => f)).src
    have hbb : ([] : List Nat).length + bs.length ≤ 1099511627776 := by simp; omega
    go_wp2_with (at_builtin; refine wpList_apd _ rfl rfl (.const (.slice none 0 0)) (.tmp 45) 26 rfl (.slice none 0 0) [] rfl (Own.nil _) _ rfl bs hs1 hbb ?_; intro v2 w2 o2 s2)
    have f2 := f1.new (Sp.fresh (v' := v2) s2).1 (fun _ _ f => f)
    refine (open_any w2 v2 bs o2.sl (by omega)).mono ?_
    rintro e w3 ⟨p, rfl, hp, hr3, f3⟩
    have f3' := f2.new f3 (fun _ _ f => f)
    have S0 : SS w (w3.alloc (.cells #[.slice uo bs.length uc] 47)) p w3.heap.size bs bs := by
      have fa : Fr no w3 (w3.alloc (.cells #[.slice uo bs.length uc] 47)) := (Fr.refl no w3).alloc _ _
      have hp3 : p < w3.heap.size := by obtain ⟨v', a1, _⟩ := hr3; exact lt_of_heap a1
      exact ⟨hr3.kept fa (fun f => f) (fun _ _ _ f => f), ⟨_, heap_alloc_new w3 _, HU.out.kept (f3'.new fa (fun _ _ f => f)) (fun _ _ _ f => f)⟩, Nat.le_trans f2.size hp, f3'.size, by omega, f3'.new fa (fun _ _ f => f)⟩
    generalize hq : w3.heap.size = q at S0
    clear o2 s2 hs1 f1 f2 f3 f3' hr3 hp
    go_wp2_with fail
    clear hq
    go_loopw [7] (fun i wr => ∃ (k : Nat) (l : List Nat), i = .int .i64 (k : Int) ∧ k ≤ L.length ∧ l.length ≤ 500 ∧ Hid (∀ c ∈ l, c < 256) ∧ SS w wr p q l l) (fun i _ => L.length - (intOf i).toNat)
    case atStart => exact ⟨0, bs, rfl, Nat.zero_le _, by omega, hbs, S0⟩
    case round =>
      obtain ⟨k, l, rfl, hk, hll, hlb, hss⟩ := hrel
      clear S0
      by_cases hlt : k < L.length
      · obtain ⟨x, hx⟩ : ∃ x, L[k]? = some x := ⟨_, List.getElem?_eq_getElem hlt⟩
        obtain ⟨b, off, rfl, hi⟩ := HI.out k x hx
        clear hx
        have i0 := hi.kept hss.fr
        have c0 := i0.c0
        have c5 := i0.c5
        have mlo := hi.lo
        have mhi := hi.hi
        clear i0
        by_cases wh1 : x.what = 1
        · skip
          have q1 : (x.what == 1) = true := by simp; omega
          clear wh1
          go_wp2_with fail
          refine (readInt_any wr p l hss.r hlb.out (by omega)).mono ?_
          rintro e w4 HE4
          obtain ⟨rfl, r1, r2⟩ := HE4
          have S4 := hss.stepR r1 r2
          have c5' := (hi.kept S4.fr).c5
          clear r1 r2 hss c5 c0
          go_wp2_with fail
          refine (docInt_any w4 q l S4.m hlb.out (by omega)).mono ?_
          rintro e w5 ⟨rfl, r1, r2⟩
          have S5 := S4.stepM r1 r2
          clear r1 r2 S4 c5'
          generalize rd l 0 0 = rr at *
          obtain ⟨l', hl'⟩ : ∃ l', l.drop rr.2.2 = l' := ⟨_, rfl⟩
          rw [hl'] at S5
          have hl5 : l'.length ≤ 500 := by rw [← hl', List.length_drop]; omega
          have hlb5 : Hid (∀ c ∈ l', c < 256) := fun c hc => hlb.out c (List.mem_of_mem_drop (hl' ▸ hc))
          clear hl'
          obtain ⟨mo, mn, mc, cm, en⟩ := S5.cellM
          subst en
          have LF : ∀ n, Calls Try.prog 36 #[.pointer (some ⟨p, 0, none⟩)] (w5.drewN n) fun e w' => e = .returned (.int .i64 (l'.length : Int)) ∧ w' = w5.drewN n := fun n => left_any _ p l' (S5.kept ((Fr.refl no w5).drewN n)).r
          go_wp2_with fail
          go_quiet (first | (go_at_call 36; refine Calls.quiet_of_same (LF _)))
          go_wp2_with fail
          go_roundw
          case rel => exact ⟨k + 1, l', by go_num, by omega, hl5, hlb5, S5.kept ((Fr.refl no w5).drewN _)⟩
          case measure => simp [intOf]; omega
        by_cases wh2 : x.what = 2
        · skip
          have q1 : (x.what == 1) = false := by simp; omega
          have q2 : (x.what == 2) = true := by simp; omega
          clear wh2
          go_wp2_with fail
          refine (readText_any wr p l hss.r hlb.out (by omega) x.most mlo mhi).mono ?_
          rintro e w4 HE4
          obtain ⟨rfl, r1, r2⟩ := HE4
          have S4 := hss.stepR r1 r2
          have c5' := (hi.kept S4.fr).c5
          clear r1 r2 hss c5 c0
          go_wp2_with fail
          refine (docText_any w4 q l S4.m hlb.out (by omega) x.most mlo mhi).mono ?_
          rintro e w5 ⟨rfl, r1, r2⟩
          have S5 := S4.stepM r1 r2
          clear r1 r2 S4 c5'
          generalize tx l x.most = rr at *
          obtain ⟨l', hl'⟩ : ∃ l', l.drop rr.2.2 = l' := ⟨_, rfl⟩
          rw [hl'] at S5
          have hl5 : l'.length ≤ 500 := by rw [← hl', List.length_drop]; omega
          have hlb5 : Hid (∀ c ∈ l', c < 256) := fun c hc => hlb.out c (List.mem_of_mem_drop (hl' ▸ hc))
          clear hl'
          obtain ⟨mo, mn, mc, cm, en⟩ := S5.cellM
          subst en
          have LF : ∀ n, Calls Try.prog 36 #[.pointer (some ⟨p, 0, none⟩)] (w5.drewN n) fun e w' => e = .returned (.int .i64 (l'.length : Int)) ∧ w' = w5.drewN n := fun n => left_any _ p l' (S5.kept ((Fr.refl no w5).drewN n)).r
          go_wp2_with fail
          go_quiet (first | (go_at_call 36; refine Calls.quiet_of_same (LF _)))
          go_wp2_with fail
          go_roundw
          case rel => exact ⟨k + 1, l', by go_num, by omega, hl5, hlb5, S5.kept ((Fr.refl no w5).drewN _)⟩
          case measure => simp [intOf]; omega
        by_cases wh3 : x.what = 3
        · skip
          have q1 : (x.what == 1) = false := by simp; omega
          have q2 : (x.what == 2) = false := by simp; omega
          have q3 : (x.what == 3) = true := by simp; omega
          clear wh3
          go_wp2_with fail
          refine (readCplx_any wr p l hss.r hlb.out (by omega)).mono ?_
          rintro e w4 HE4
          obtain ⟨rfl, r1, r2⟩ := HE4
          have S4 := hss.stepR r1 r2
          have c5' := (hi.kept S4.fr).c5
          clear r1 r2 hss c5 c0
          go_wp2_with fail
          refine (docCplx_any w4 q l S4.m hlb.out (by omega)).mono ?_
          rintro e w5 ⟨rfl, r1, r2⟩
          have S5 := S4.stepM r1 r2
          clear r1 r2 S4 c5'
          generalize cxd l = rr at *
          go_wp2_with fail
          refine (alike_any _ _ _).mono ?_
          rintro e w5 ⟨rfl, rfl⟩
          obtain ⟨l', hl'⟩ : ∃ l', l.drop rr.2.2.2 = l' := ⟨_, rfl⟩
          rw [hl'] at S5
          have hl5 : l'.length ≤ 500 := by rw [← hl', List.length_drop]; omega
          have hlb5 : Hid (∀ c ∈ l', c < 256) := fun c hc => hlb.out c (List.mem_of_mem_drop (hl' ▸ hc))
          clear hl'
          obtain ⟨mo, mn, mc, cm, en⟩ := S5.cellM
          subst en
          have LF : ∀ n, Calls Try.prog 36 #[.pointer (some ⟨p, 0, none⟩)] (w5.drewN n) fun e w' => e = .returned (.int .i64 (l'.length : Int)) ∧ w' = w5.drewN n := fun n => left_any _ p l' (S5.kept ((Fr.refl no w5).drewN n)).r
          go_wp2_with fail
          go_quiet (first | (go_at_call 36; refine Calls.quiet_of_same (LF _)))
          go_wp2_with fail
          go_roundw
          case rel => exact ⟨k + 1, l', by go_num, by omega, hl5, hlb5, S5.kept ((Fr.refl no w5).drewN _)⟩
          case measure => simp [intOf]; omega
        by_cases wh4 : x.what = 4
        · skip
          have q1 : (x.what == 1) = false := by simp; omega
          have q2 : (x.what == 2) = false := by simp; omega
          have q3 : (x.what == 3) = false := by simp; omega
          have q4 : (x.what == 4) = true := by simp; omega
          clear wh4
          go_wp2_with fail
          refine (readByte_any wr p l hss.r).mono ?_
          rintro e w4 HE4
          obtain ⟨rfl, r1, r2⟩ := HE4
          have S4 := hss.stepR r1 r2
          have c5' := (hi.kept S4.fr).c5
          clear r1 r2 hss c5 c0
          go_wp2_with fail
          refine (docByte_any w4 q l S4.m).mono ?_
          rintro e w5 ⟨rfl, r1, r2⟩
          have S5 := S4.stepM r1 r2
          clear r1 r2 S4 c5'
          generalize by1 l = rr at *
          obtain ⟨l', hl'⟩ : ∃ l', l.drop rr.2.2 = l' := ⟨_, rfl⟩
          rw [hl'] at S5
          have hl5 : l'.length ≤ 500 := by rw [← hl', List.length_drop]; omega
          have hlb5 : Hid (∀ c ∈ l', c < 256) := fun c hc => hlb.out c (List.mem_of_mem_drop (hl' ▸ hc))
          clear hl'
          obtain ⟨mo, mn, mc, cm, en⟩ := S5.cellM
          subst en
          have LF : ∀ n, Calls Try.prog 36 #[.pointer (some ⟨p, 0, none⟩)] (w5.drewN n) fun e w' => e = .returned (.int .i64 (l'.length : Int)) ∧ w' = w5.drewN n := fun n => left_any _ p l' (S5.kept ((Fr.refl no w5).drewN n)).r
          go_wp2_with fail
          go_quiet (first | (go_at_call 36; refine Calls.quiet_of_same (LF _)))
          go_wp2_with fail
          go_roundw
          case rel => exact ⟨k + 1, l', by go_num, by omega, hl5, hlb5, S5.kept ((Fr.refl no w5).drewN _)⟩
          case measure => simp [intOf]; omega
        by_cases wh5 : x.what = 5
        · skip
          have q1 : (x.what == 1) = false := by simp; omega
          have q2 : (x.what == 2) = false := by simp; omega
          have q3 : (x.what == 3) = false := by simp; omega
          have q4 : (x.what == 4) = false := by simp; omega
          have q5 : (x.what == 5) = true := by simp; omega
          clear wh5
          go_wp2_with fail
          refine (readCount_any wr p l hss.r hlb.out (by omega) x.most mlo mhi).mono ?_
          rintro e w4 HE4
          obtain ⟨rfl, r1, _, r2⟩ := HE4
          have S4 := hss.stepR r1 r2
          have c5' := (hi.kept S4.fr).c5
          clear r1 r2 hss c5 c0
          go_wp2_with fail
          refine (docCount_any w4 q l S4.m hlb.out (by omega) x.most mlo mhi).mono ?_
          rintro e w5 ⟨rfl, r1, _, r2⟩
          have S5 := S4.stepM r1 r2
          clear r1 r2 S4 c5'
          generalize ct l x.most = rr at *
          obtain ⟨l', hl'⟩ : ∃ l', l.drop rr.2.2 = l' := ⟨_, rfl⟩
          rw [hl'] at S5
          have hl5 : l'.length ≤ 500 := by rw [← hl', List.length_drop]; omega
          have hlb5 : Hid (∀ c ∈ l', c < 256) := fun c hc => hlb.out c (List.mem_of_mem_drop (hl' ▸ hc))
          clear hl'
          obtain ⟨mo, mn, mc, cm, en⟩ := S5.cellM
          subst en
          have LF : ∀ n, Calls Try.prog 36 #[.pointer (some ⟨p, 0, none⟩)] (w5.drewN n) fun e w' => e = .returned (.int .i64 (l'.length : Int)) ∧ w' = w5.drewN n := fun n => left_any _ p l' (S5.kept ((Fr.refl no w5).drewN n)).r
          go_wp2_with fail
          go_quiet (first | (go_at_call 36; refine Calls.quiet_of_same (LF _)))
          go_wp2_with fail
          go_roundw
          case rel => exact ⟨k + 1, l', by go_num, by omega, hl5, hlb5, S5.kept ((Fr.refl no w5).drewN _)⟩
          case measure => simp [intOf]; omega
        · skip
          have q1 : (x.what == 1) = false := by simp; omega
          have q2 : (x.what == 2) = false := by simp; omega
          have q3 : (x.what == 3) = false := by simp; omega
          have q4 : (x.what == 4) = false := by simp; omega
          have q5 : (x.what == 5) = false := by simp; omega
          go_wp2_with fail
          refine (readUint_any wr p l hss.r hlb.out (by omega)).mono ?_
          rintro e w4 HE4
          obtain ⟨rfl, r1, _, r2⟩ := HE4
          have S4 := hss.stepR r1 r2
          have c5' := (hi.kept S4.fr).c5
          clear r1 r2 hss c5 c0
          go_wp2_with fail
          refine (docUint_any w4 q l S4.m hlb.out (by omega)).mono ?_
          rintro e w5 ⟨rfl, r1, _, r2⟩
          have S5 := S4.stepM r1 r2
          clear r1 r2 S4 c5'
          generalize rd l 0 0 = rr at *
          obtain ⟨l', hl'⟩ : ∃ l', l.drop rr.2.2 = l' := ⟨_, rfl⟩
          rw [hl'] at S5
          have hl5 : l'.length ≤ 500 := by rw [← hl', List.length_drop]; omega
          have hlb5 : Hid (∀ c ∈ l', c < 256) := fun c hc => hlb.out c (List.mem_of_mem_drop (hl' ▸ hc))
          clear hl'
          obtain ⟨mo, mn, mc, cm, en⟩ := S5.cellM
          subst en
          have LF : ∀ n, Calls Try.prog 36 #[.pointer (some ⟨p, 0, none⟩)] (w5.drewN n) fun e w' => e = .returned (.int .i64 (l'.length : Int)) ∧ w' = w5.drewN n := fun n => left_any _ p l' (S5.kept ((Fr.refl no w5).drewN n)).r
          go_wp2_with fail
          go_quiet (first | (go_at_call 36; refine Calls.quiet_of_same (LF _)))
          go_wp2_with fail
          go_roundw
          case rel => exact ⟨k + 1, l', by go_num, by omega, hl5, hlb5, S5.kept ((Fr.refl no w5).drewN _)⟩
          case measure => simp [intOf]; omega
      · go_wp2_with fail
        go_ret
        exact ⟨rfl, hss.fr⟩

set_option maxRecDepth 100000 in
theorem lifted (os : Os) (started : os.Started) (H : Type) (enc : TypeId × Value → H) :
    ReturnsInHanded {} Try.checked os 4 .any (Rows.wireReadsSpec.pre6 enc Try.prog Try.f4 Rows.wireReadsRow.domain false) (Rows.wireReadsSpec.post enc Try.prog Try.f4 false true false false) := by
  refine returnsInHanded_of_change (C := Try.checked) own started (by kernel_rfl) Try.func4
    (ChangeSpec.witness6 (enc := enc) (C := Try.checked) false ⟨#[], #[.slice none 0 0, .slice none 0 0], []⟩ 8 (by kernel_rfl) (by kernel_rfl) (by kernel_rfl) (by kernel_rfl)) ?_
  intro W base args ds gs before hval0 hW hcnd _
  have hval : ∀ (j : Nat) t v, Try.f4.params[j]? = some t → args[j]? = some v → Value.okWide Try.prog W .any base t v := hval0
  have hW' := hW
  obtain ⟨p, q, hA0, hV, rfl, hfz, hnd⟩ := hW
  have hA : DataW.TrodAll enc Try.prog W 0 (fun _ => true) true Try.f4.params.toList args.toList ds p := hA0
  rw [Try.params4] at hA hval
  obtain ⟨v0, vs0, d0, ds0, p0, q0, hargs, rfl, rfl, h0, r0⟩ := trodAll_cons hA
  obtain ⟨v1, vs1, d1, ds1, p1, q1, rfl, rfl, rfl, h1, r1⟩ := trodAll_cons r0
  obtain ⟨rfl, rfl, rfl⟩ := trodAll_nil r1
  obtain rfl : args = #[v0, v1] := by cases args; simp_all
  obtain ⟨rfl, rfl⟩ := trodVars_none hV
  obtain ⟨L, hL⟩ := open_items (okWide_slice Try.underlying22 (hval 1 22 v1 rfl rfl)) h1
  obtain ⟨bs, hbs, hsl⟩ := open_bytes (okWide_slice Try.underlying26 (hval 0 26 v0 rfl rfl)) h0
  clear hA0 hval0
  simp only [List.append_nil] at hW'
  refine (walk v0 v1 bs L W hsl hbs hL).mono fun e W' ⟨he, hg⟩ => ?_
  subst he
  have hlt0 : ∀ x ∈ p0, x.block < W.heap.size := fun x hx => hW'.lt x (by simp [hx])
  have hlt1 : ∀ x ∈ p1, x.block < W.heap.size := fun x hx => hW'.lt x (by simp [hx])
  exact ⟨_, rfl, post_of_same (pa := p0 ++ (p1 ++ [])) (pv := []) hW' (fun _ _ _ => (trodAll_cons_mk (shut_bool Try.underlying4 _) trodAll_mk0)) (fun sp hsp => (trodAll_cons_mk (trod_after (by kernel_rfl) (of_decide_eq_true (by kernel_rfl)) h0 hg hlt0 (fun x hx => hsp x (by simp [hx]))) (trodAll_cons_mk (trod_after (by kernel_rfl) (of_decide_eq_true (by kernel_rfl)) h1 hg hlt1 (fun x hx => hsp x (by simp [hx]))) trodAll_mk0))) (fun _ _ => rfl) (by simp)
    (hg.toGrown.frame _) hg.toGrown.2.1 (ok_one (by kernel_rfl) rfl (okWide_bool_mk Try.underlying4 _))⟩

theorem over : Rows.wireReadsRow.holds Try.pinned (OpenSpec.ofChange Rows.wireReadsSpec) :=
  OpenClaim.holds_of_wide 4 Try.f4 rfl rfl rfl rfl rfl rfl rfl ⟨rfl, rfl, rfl, rfl, rfl⟩ rfl rfl rfl rfl rfl (by kernel_rfl) Try.func4 (by kernel_rfl)
    (of_decide_eq_true (by kernel_rfl)) (by unfold Func.isWrapper; first | (rw [if_pos (by decide +kernel)]; kernel_rfl) | (rw [if_neg (by decide +kernel)]; exact ⟨rfl, rfl⟩))
    (fun os started H enc _ => lifted os started H enc)

theorem proved : Rows.WireReadsSaid :=
  over
#print axioms proved
end Go.Proofs.Ytcgkifiijjmaiaa.wireReads
