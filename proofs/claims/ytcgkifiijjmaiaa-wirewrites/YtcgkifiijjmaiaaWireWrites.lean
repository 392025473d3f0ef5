/- For every row of items the statement WireWrites returns true, and its argument reads as before. -/
import Derived.Test.YtcgkifiijjmaiaaRows
import Derived.Test.YtcgkifiijjmaiaaItems
import Derived.Test.YtcgkifiijjmaiaaRef
import Derived.WalkKit
import Derived.ProofKit
import Derived.OpenShut
import Derived.ShutString
import Derived.Deep.RegionWith
namespace Go.Proofs.Ytcgkifiijjmaiaa.wireWrites
open Go.ChangeShapes Go.WideShapes Go.ChangeAt Go.RowKit

theorem own : ownKnob Try.prog.godebug = none := by kernel_rfl

/-- A writer at p that holds v, the bytes l, and apart from it a slice u of the bytes m, both newer than w0. -/
structure St (w0 w : World) (p : Nat) (v : Value) (l : List Nat) (u : Value) (m : List Nat) : Prop where
  wt : Wt w p v l
  ow : Own w u m
  hp : w0.heap.size ≤ p
  hv : ∀ k, v.ownBlock = some k → w0.heap.size ≤ k
  hu : ∀ k, u.ownBlock = some k → w0.heap.size ≤ k
  dis : ∀ k, v.ownBlock = some k → u.ownBlock ≠ some k
  fr : Fr no w0 w

theorem St.apart {w0 w : World} {p : Nat} {v u : Value} {l m : List Nat} (h : St w0 w p v l u m) : u.ownBlock ≠ some p := by
  intro e
  have : Wt w p v l := h.wt
  rcases h.ow.2 with ⟨rfl, _⟩ | ⟨g, cap, cur, rfl, hb, hgg, rest⟩
  · simp [Value.ownBlock] at e
  · simp [Value.ownBlock] at e
    subst e
    rw [this.1] at hgg
    simp at hgg

theorem St.write {w0 w w' : World} {p : Nat} {v u v' : Value} {l m l' : List Nat} (h : St w0 w p v l u m) (ht : Wt w' p v' l') (hs : Sp (fun k => k = p) v w v' w') : St w0 w' p v' l' u m := by
  have hb := WB.step h.hp h.hv h.fr ht hs
  refine ⟨ht, h.ow.kept hs.1 (fun k hk s => s.elim (fun e => h.apart (e ▸ hk)) (fun e => h.dis k e hk)), h.hp, fun k hk => ?_, h.hu, fun k hk hk2 => h.dis k (hs.2 k (h.ow.lt hk2) hk) hk2, hb.fr⟩
  rcases Nat.lt_or_ge k w.heap.size with hlt | hge
  · exact h.hv k (hs.2 k hlt hk)
  · exact Nat.le_trans h.fr.size hge

theorem St.ref {w0 w w' : World} {p : Nat} {v u u' : Value} {l m m' : List Nat} (h : St w0 w p v l u m) (ho : Own w' u' m') (hs : Sp no u w u' w') : St w0 w' p v l u' m' := by
  refine ⟨h.wt.kept hs.1 (fun s => s.elim id (fun e => h.apart e)) (fun k hk s => s.elim id (fun e => h.dis k hk e)), ho, h.hp, h.hv, fun k hk => ?_, fun k hk hk2 => h.dis k hk (hs.2 k (h.wt.2.lt hk) hk2), ?_⟩
  · rcases Nat.lt_or_ge k w.heap.size with hlt | hge
    · exact h.hu k (hs.2 k hlt hk)
    · exact Nat.le_trans h.fr.size hge
  · exact h.fr.new hs.1 (fun i hi s => s.elim id (fun e => by have := h.hu i e; omega))

theorem St.kept {w0 w w' : World} {p : Nat} {v u : Value} {l m : List Nat} (h : St w0 w p v l u m) (hf : Fr no w w') : St w0 w' p v l u m :=
  ⟨h.wt.kept hf (fun f => f) (fun _ _ f => f), h.ow.kept hf (fun _ _ f => f), h.hp, h.hv, h.hu, h.dis, h.fr.new hf (fun _ _ f => f)⟩

/-- The item, copied into a new block. -/
def cells6 (x : It) : Array Value := #[.int .i64 x.what, .int .u64 (x.n : Int), .string x.s, .int .u64 (x.re : Int), .int .u64 (x.im : Int), .int .i64 x.most]

theorem cell6 {w : World} {a : Nat} {x : It} (h : w.heap[a]? = some (.cells (cells6 x) 29 (0, 0))) :
    w.cell? ⟨a, 0, none⟩ = some (.int .i64 x.what) ∧ w.cell? ⟨a, 1, none⟩ = some (.int .u64 (x.n : Int)) ∧ w.cell? ⟨a, 2, none⟩ = some (.string x.s) ∧ w.cell? ⟨a, 3, none⟩ = some (.int .u64 (x.re : Int)) ∧ w.cell? ⟨a, 4, none⟩ = some (.int .u64 (x.im : Int)) := by
  simp [World.cell?, h, cells6]

def sg (n : Nat) : Int := wrap64 (n : Int)

theorem sg_lo (n : Nat) : -9223372036854775808 ≤ sg n ∧ sg n ≤ 9223372036854775807 := by
  unfold sg wrap64
  omega

set_option maxRecDepth 100000 in
set_option maxHeartbeats 4000000 in
theorem walk (v : Value) (L : List It) (w : World) (h : IsItems w v L) : Calls Try.prog 3 #[v] w fun e w' => e = .returned (.bool true) ∧ Fr no w w' := by
  obtain ⟨ad, cap, rfl, hcap, hmx, hit⟩ := h
  unfold maxLen at hmx
  have HI : Hid (∀ (i : Nat) (x : It), L[i]? = some x → ∃ b off, ad = some ⟨b, off, none⟩ ∧ ItemAt w b (off + i * 6) x) := hit
  clear hit
  by_cases h40 : 40 < L.length
  · go_enter Try.func3, Try.ntmps3
    go_wp2_with fail
    refine (known_any w).mono ?_
    rintro e w1 ⟨rfl, f1⟩
    go_wp2_with fail
    go_ret
    exact ⟨rfl, f1⟩
  · go_enter Try.func3, Try.ntmps3
    go_wp2_with fail
    refine (known_any w).mono ?_
    rintro e w1 ⟨rfl, f1⟩
    go_wp2_with fail
    refine (wb_new w w1 f1).mono ?_
    rintro e w2 ⟨p, rfl, h2⟩
    have S2 : ∃ v, St w w2 p v [] (.slice none 0 0) [] := by
      obtain ⟨v, a1, a2, a3, a4⟩ := h2
      exact ⟨v, a1, Own.nil _, a2, a3, fun k hk => by simp [Value.ownBlock] at hk, fun k _ hk => by simp [Value.ownBlock] at hk, a4⟩
    clear h2
    go_wp2_with fail
    go_loopw [4, 5] (fun u i wr => ∃ (k : Nat) (l : List Nat) (v : Value), i = .int .i64 (k : Int) ∧ k ≤ L.length ∧ l.length ≤ k * 320 ∧ St w wr p v l u l) (fun _ i _ => L.length - (intOf i).toNat)
    case atStart =>
      obtain ⟨v, hv⟩ := S2
      exact ⟨0, [], v, rfl, Nat.zero_le _, by simp, hv⟩
    case round =>
      obtain ⟨k, l, v, rfl, hk, hll, hst⟩ := hrel
      clear S2
      by_cases hlt : k < L.length
      · obtain ⟨x, hx⟩ : ∃ x, L[k]? = some x := ⟨_, List.getElem?_eq_getElem hlt⟩
        obtain ⟨b, off, rfl, hi⟩ := HI.out k x hx
        clear hx
        have i0 := hi.kept hst.fr
        have c0 := i0.c0
        have c1 := i0.c1
        have c2 := i0.c2
        have c3 := i0.c3
        have c4 := i0.c4
        have c5 := i0.c5
        clear i0
        by_cases h300 : 300 < x.s.size
        · go_wp2_with fail
          go_ret
          exact ⟨rfl, hst.fr.alloc _ _⟩
        · have hW := lt_of_heap hst.wt.1
          have hAp : wr.heap.size ≠ p := by omega
          have hAv : v.ownBlock ≠ some wr.heap.size := fun e => absurd (hst.wt.2.lt e) (Nat.lt_irrefl _)
          have hAu : u4.ownBlock ≠ some wr.heap.size := fun e => absurd (hst.ow.lt e) (Nat.lt_irrefl _)
          have hsx := hst.kept ((Fr.refl no wr).alloc (cells6 x) 29)
          have hA : (wr.alloc (.cells (cells6 x) 29)).heap[wr.heap.size]? = some (.cells (cells6 x) 29 (0, 0)) := heap_alloc_new wr _
          have hsg := sg_lo x.n
          clear hst hW
          by_cases wh1 : x.what = 1
          · clear hAu
            have q1 : (x.what == 1) = true := by simp; omega
            clear wh1
            go_wp2_with fail
            refine (int_any (wr.alloc (.cells (cells6 x) 29)) p v l hsx.wt (by omega) (sg x.n) hsg.1 hsg.2).mono ?_
            rintro e w3 ⟨rfl, v3, ht3, hs3⟩
            have S3 := hsx.write ht3 hs3
            have hA3 := hs3.1.heap hA (fun s => s.elim hAp hAv)
            obtain ⟨g0, g1, g2, g3, g4⟩ := cell6 hA3
            clear hs3 ht3 hA3 hsx hA
            go_wp2_with fail
            refine (ref_int w3 u4 l S3.ow (by omega) (sg x.n) hsg.1 hsg.2).mono ?_
            rintro e w4 ⟨u5, rfl, ho4, hs4⟩
            have S4 := S3.ref ho4 hs4
            clear ho4 hs4 S3
            go_wp2_with fail
            go_roundw
            case rel => exact ⟨k + 1, _, v3, by go_num, by omega, by (have := enc_length (fo (sg x.n))); rw [List.length_append]; omega, S4⟩
            case measure => simp [intOf]; omega
          by_cases wh2 : x.what = 2
          · clear hAu
            have q1 : (x.what == 1) = false := by simp; omega
            have q2 : (x.what == 2) = true := by simp; omega
            clear wh2
            go_wp2_with fail
            refine (text_any (wr.alloc (.cells (cells6 x) 29)) p v l hsx.wt x.s (by omega)).mono ?_
            rintro e w3 ⟨rfl, v3, ht3, hs3⟩
            have S3 := hsx.write ht3 hs3
            have hA3 := hs3.1.heap hA (fun s => s.elim hAp hAv)
            obtain ⟨g0, g1, g2, g3, g4⟩ := cell6 hA3
            clear hs3 ht3 hA3 hsx hA
            go_wp2_with fail
            refine (ref_text w3 u4 l S3.ow x.s (by omega)).mono ?_
            rintro e w4 ⟨u5, rfl, ho4, hs4⟩
            have S4 := S3.ref ho4 hs4
            clear ho4 hs4 S3
            go_wp2_with fail
            go_roundw
            case rel => exact ⟨k + 1, _, v3, by go_num, by omega, by (have := enc_length x.s.size); rw [List.length_append, List.length_append, nl_length]; omega, S4⟩
            case measure => simp [intOf]; omega
          by_cases wh3 : x.what = 3
          · clear hAu
            have q1 : (x.what == 1) = false := by simp; omega
            have q2 : (x.what == 2) = false := by simp; omega
            have q3 : (x.what == 3) = true := by simp; omega
            clear wh3
            go_wp2_with fail
            refine (of_any x.re x.im (wr.alloc (.cells (cells6 x) 29))).mono ?_
            rintro e w0 ⟨rfl, rfl⟩
            go_wp2_with fail
            refine (cplx_any (wr.alloc (.cells (cells6 x) 29)) p v l hsx.wt (by omega) x.re x.im hi.re64 hi.im64).mono ?_
            rintro e w3 ⟨rfl, v3, ht3, hs3⟩
            have S3 := hsx.write ht3 hs3
            have hA3 := hs3.1.heap hA (fun s => s.elim hAp hAv)
            obtain ⟨g0, g1, g2, g3, g4⟩ := cell6 hA3
            clear hs3 ht3 hA3 hsx hA
            go_wp2_with fail
            refine (of_any x.re x.im w3).mono ?_
            rintro e w0 ⟨rfl, rfl⟩
            go_wp2_with fail
            refine (ref_cplx w0 u4 l S3.ow (by omega) x.re x.im hi.re64 hi.im64).mono ?_
            rintro e w4 ⟨u5, rfl, ho4, hs4⟩
            have S4 := S3.ref ho4 hs4
            clear ho4 hs4 S3
            go_wp2_with fail
            go_roundw
            case rel => exact ⟨k + 1, _, v3, by go_num, by omega, by rw [List.length_append, List.length_append, le_length, le_length]; omega, S4⟩
            case measure => simp [intOf]; omega
          by_cases wh4 : x.what = 4
          · clear hAu
            have q1 : (x.what == 1) = false := by simp; omega
            have q2 : (x.what == 2) = false := by simp; omega
            have q3 : (x.what == 3) = false := by simp; omega
            have q4 : (x.what == 4) = true := by simp; omega
            clear wh4
            go_wp2_with fail
            refine (byte_any (wr.alloc (.cells (cells6 x) 29)) p v l hsx.wt (by omega) (x.n % 256)).mono ?_
            rintro e w3 ⟨rfl, v3, ht3, hs3⟩
            have S3 := hsx.write ht3 hs3
            have hA3 := hs3.1.heap hA (fun s => s.elim hAp hAv)
            obtain ⟨g0, g1, g2, g3, g4⟩ := cell6 hA3
            clear hs3 ht3 hA3 hsx hA
            have hS := src_one w3 (x.n % 256)
            have o3 := own_alloc S3.ow #[.int .u8 ((x.n % 256 : Nat) : Int)] 5
            have S3' := S3.kept ((Fr.refl no w3).alloc #[.int .u8 ((x.n % 256 : Nat) : Int)] 5)
            have hbb : l.length + ([x.n % 256] : List Nat).length ≤ 1099511627776 := by simp; omega
            obtain ⟨uo, un, uc, eu⟩ := S3.ow.form
            subst eu
            go_wp2_with (at_builtin; refine wpList_apd _ rfl rfl (.tmp 82) (.tmp 86) 26 rfl _ l rfl o3 _ rfl [x.n % 256] hS hbb ?_; intro u5 w4 ho4 hs4; obtain ⟨uo', un', uc', eu'⟩ := ho4.form; subst eu')
            have S4 := S3'.ref ho4 hs4
            clear ho4 hs4 S3 S3'
            go_roundw
            case rel => exact ⟨k + 1, _, v3, by go_num, by omega, by rw [List.length_append]; show l.length + 1 ≤ (k + 1) * 320; omega, S4⟩
            case measure => simp [intOf]; omega
          · clear hAu
            have q1 : (x.what == 1) = false := by simp; omega
            have q2 : (x.what == 2) = false := by simp; omega
            have q3 : (x.what == 3) = false := by simp; omega
            have q4 : (x.what == 4) = false := by simp; omega
            go_wp2_with fail
            refine (uint_any (wr.alloc (.cells (cells6 x) 29)) p v l hsx.wt (by omega) x.n hi.n64).mono ?_
            rintro e w3 ⟨rfl, v3, ht3, hs3⟩
            have S3 := hsx.write ht3 hs3
            have hA3 := hs3.1.heap hA (fun s => s.elim hAp hAv)
            obtain ⟨g0, g1, g2, g3, g4⟩ := cell6 hA3
            clear hs3 ht3 hA3 hsx hA
            go_wp2_with fail
            refine (ref_uint w3 u4 l S3.ow (by omega) x.n hi.n64).mono ?_
            rintro e w4 ⟨u5, rfl, ho4, hs4⟩
            have S4 := S3.ref ho4 hs4
            clear ho4 hs4 S3
            go_wp2_with fail
            go_roundw
            case rel => exact ⟨k + 1, _, v3, by go_num, by omega, by (have := enc_length x.n); rw [List.length_append]; omega, S4⟩
            case measure => simp [intOf]; omega
      · have hkl : k = L.length := by omega
        subst hkl
        have oU : ∀ w' : World, Fr no wr w' → (convert 26 9 u4).run Try.prog w' = .ok (.string (bstr l)) w' := fun w' hf => conv_own w' u4 l (hst.ow.kept hf (fun _ _ f => f))
        have hbl : l.length ≤ 1099511627776 := by omega
        obtain ⟨uo, un, uc, eu⟩ := hst.ow.form
        subst eu
        have d0 := oU wr.drew (Fr.refl no wr).drew
        go_wp2_with fail
        go_region_with (go_at_call 21; refine (bytes_any _ p v l (hst.wt.kept (Fr.refl no wr).drew (fun f => f) (fun _ _ f => f)) hbl).mono ?_; rintro e w5 ⟨v5, rfl, o5, s5⟩; have f5 := (Fr.refl no wr).drew.new s5.fresh.1 (fun _ _ f => f); have d1 := oU w5 f5; have d2 := conv_own w5 _ _ o5; obtain ⟨vo, vn, vc, ev⟩ := o5.form; subst ev)
        all_goals (go_wp2_with fail; go_ret; refine ⟨by first | rfl | (simp; rfl), ?_⟩)
        all_goals (refine Fr.new hst.fr (S := no) ?_ (fun _ _ f => f); assumption)

set_option maxRecDepth 100000 in
theorem lifted (os : Os) (started : os.Started) (H : Type) (enc : TypeId × Value → H) :
    ReturnsInHanded {} Try.checked os 3 .any (Rows.wireWritesSpec.pre6 enc Try.prog Try.f3 Rows.wireWritesRow.domain false) (Rows.wireWritesSpec.post enc Try.prog Try.f3 false true false false) := by
  refine returnsInHanded_of_change (C := Try.checked) own started (by kernel_rfl) Try.func3
    (ChangeSpec.witness6 (enc := enc) (C := Try.checked) false ⟨#[], #[.slice none 0 0], []⟩ 8 (by kernel_rfl) (by kernel_rfl) (by kernel_rfl) (by kernel_rfl)) ?_
  intro W base args ds gs before hval0 hW hcnd _
  have hval : ∀ (j : Nat) t v, Try.f3.params[j]? = some t → args[j]? = some v → Value.okWide Try.prog W .any base t v := hval0
  have hW' := hW
  obtain ⟨p, q, hA0, hV, rfl, hfz, hnd⟩ := hW
  have hA : DataW.TrodAll enc Try.prog W 0 (fun _ => true) true Try.f3.params.toList args.toList ds p := hA0
  rw [Try.params3] at hA hval
  obtain ⟨v0, vs0, d0, ds0, p0, q0, hargs, rfl, rfl, h0, r0⟩ := trodAll_cons hA
  obtain ⟨rfl, rfl, rfl⟩ := trodAll_nil r0
  obtain rfl : args = #[v0] := by cases args; simp_all
  obtain ⟨rfl, rfl⟩ := trodVars_none hV
  obtain ⟨L, hL⟩ := open_items (okWide_slice Try.underlying22 (hval 0 22 v0 rfl rfl)) h0
  clear hA0 hval0
  simp only [List.append_nil] at hW'
  refine (walk v0 L W hL).mono fun e W' ⟨he, hg⟩ => ?_
  subst he
  have hlt : ∀ x ∈ p0, x.block < W.heap.size := fun x hx => hW'.lt x hx
  exact ⟨_, rfl, post_of_same (pa := p0 ++ []) (pv := []) hW' (fun _ _ _ => (trodAll_cons_mk (shut_bool Try.underlying4 _) trodAll_mk0)) (fun sp hsp => (trodAll_cons_mk (trod_after (by kernel_rfl) (of_decide_eq_true (by kernel_rfl)) h0 hg hlt (fun x hx => hsp x (by simpa using hx))) trodAll_mk0)) (fun _ _ => rfl) (by simp)
    (hg.toGrown.frame _) hg.toGrown.2.1 (ok_one (by kernel_rfl) rfl (okWide_bool_mk Try.underlying4 _))⟩

theorem over : Rows.wireWritesRow.holds Try.pinned (OpenSpec.ofChange Rows.wireWritesSpec) :=
  OpenClaim.holds_of_wide 3 Try.f3 rfl rfl rfl rfl rfl rfl rfl ⟨rfl, rfl, rfl, rfl, rfl⟩ rfl rfl rfl rfl rfl (by kernel_rfl) Try.func3 (by kernel_rfl)
    (of_decide_eq_true (by kernel_rfl)) (by unfold Func.isWrapper; first | (rw [if_pos (by decide +kernel)]; kernel_rfl) | (rw [if_neg (by decide +kernel)]; exact ⟨rfl, rfl⟩))
    (fun os started H enc _ => lifted os started H enc)

theorem proved : Rows.WireWritesSaid :=
  over
#print axioms proved
end Go.Proofs.Ytcgkifiijjmaiaa.wireWrites
