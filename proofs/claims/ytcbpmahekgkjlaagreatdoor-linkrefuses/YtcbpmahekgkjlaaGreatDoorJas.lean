/- What is known of Main. -/
import Derived.Test.YtcbpmahekgkjlaaGreatDoorJaq
import Derived.Test.YtcbpmahekgkjlaaGreatDoorJar
namespace Go.Proofs.YtcbpmahekgkjlaaGreatDoor
open Go.ChangeShapes Go.WideShapes Go.ChangeAt Go.RowKit
open H (ix)
theorem link_nil : linkE [] = 74 := by decide +kernel
theorem link_main : linkE [mainC] = 0 := by decide +kernel
theorem newC_main : (newC [mainC]).2.2 = [0, 0, 0] := by decide +kernel
theorem main_words : (lay (allC [mainC]) (newC [mainC]).2.2 2).words = 3 := by decide +kernel
theorem main_slots : (lay (allC [mainC]) (newC [mainC]).2.2 2).slots.length = 2 := by decide +kernel
theorem main_ix : ix ⟨#[77, 97, 105, 110]⟩ (namesOf (allC [mainC])) = some 2 := by decide +kernel
theorem main_field : (fieldOf (namesOf (allC [mainC])) (layAll (allC [mainC]) (newC [mainC]).2.2) ⟨#[77, 97, 105, 110]⟩ ⟨#[110]⟩).map (fun t => t.at') = some 2 := by decide +kernel
theorem cls_one : (clsAt (allC [mainC]) 1).name = ⟨#[70, 97, 117, 108, 116]⟩ := by decide +kernel
theorem fit_ret (n : ByteArray) (hn : n.size ≤ 1099511627776) : FitM (retM n) := ⟨hn, by show fitS ⟨#[]⟩; unfold fitS; decide, fun t ht => by simp [retM] at ht⟩
theorem fit_main : FitC mainC := by
  refine ⟨by show fitS _; unfold fitS; decide, by show fitS _; unfold fitS; decide, fun x hx => by simp [mainC] at hx, fun x hx => ?_, fun m hm => ?_⟩
  · simp only [mainC, List.mem_cons, List.not_mem_nil, or_false] at hx
    rcases hx with rfl | rfl
    · constructor <;> (unfold fitS; decide)
    · constructor <;> (unfold fitS; decide)
  · simp only [mainC, List.mem_cons, List.not_mem_nil, or_false] at hm
    subst hm
    exact fit_ret _ (by decide)
theorem fit_one : ∀ c ∈ [mainC], FitC c := fun c hc => by
  simp only [List.mem_cons, List.not_mem_nil, or_false] at hc
  subst hc
  exact fit_main
theorem cs_nil (w : World) : CsAt w (.slice none 0 0) [] := ⟨⟨[], SlG.nil elKs w, rfl, fun i s c hs _ => by simp at hs⟩⟩
theorem cs_one (w : World) (s : Ks) (c : Cl) (h : ClAt w s c) : CsAt (w.alloc (.cells #[.string s.name, .string s.super, .slice s.p.a s.p.n s.p.c, .slice s.f.a s.f.n s.f.c, .slice s.m.a s.m.n s.m.c] 59)) (.slice (some ⟨w.heap.size, 0, none⟩) 1 1) [c] := by
  have o := own_lit okKs w [s] #[.string s.name, .string s.super, .slice s.p.a s.p.n s.p.c, .slice s.f.a s.f.n s.f.c, .slice s.m.a s.m.n s.m.c] rfl (show 1 ≤ maxLen by decide)
  refine ⟨⟨[s], o.sl okKs, rfl, fun i s' c' hs hc => ?_⟩⟩
  match i, hs, hc with
  | 0, hs, hc =>
    simp only [List.getElem?_cons_zero, Option.some.injEq] at hs hc
    subst hs hc
    exact h.kept ((Fr.refl no w).alloc _ _)
  | i + 1, hs, hc => simp at hs
end Go.Proofs.YtcbpmahekgkjlaaGreatDoor

/- Main and nobody, linked. -/
namespace Go.Proofs.YtcbpmahekgkjlaaGreatDoor
open Go.ChangeShapes Go.WideShapes Go.ChangeAt Go.RowKit
open H (ix)

set_option maxRecDepth 100000 in
set_option maxHeartbeats 2000000 in
theorem known_any (w : World) (T : Tb w) (R : Tr w) : Calls Tryz.prog 6 #[] w fun e w' => e = .returned (.bool true) ∧ Fr no w w' := by
  have HT : Hid (Tb w ∧ Tr w) := ⟨T, R⟩
  clear T R
  go_enter Tryz.func6, Tryz.ntmps6
  go_wp2_with fail
  refine (mainClass_any w).mono ?_
  rintro e w1 ⟨s, rfl, hc, f1⟩
  have LK := link_any _ (HT.out.1.kept (f1.alloc _ _)) (HT.out.2.kept (f1.alloc _ _)) _ _ (cs_one w1 s mainC hc) fit_one (by decide)
  rw [link_main] at LK
  have HF1 : Hid (Fr no w (w1.alloc (.cells #[.string s.name, .string s.super, .slice s.p.a s.p.n s.p.c, .slice s.f.a s.f.n s.f.c, .slice s.m.a s.m.n s.m.c] 59))) := f1.alloc _ _
  unfold ksV
  clear hc f1
  generalize hW1 : w1.alloc (.cells #[.string s.name, .string s.super, .slice s.p.a s.p.n s.p.c, .slice s.f.a s.f.n s.f.c, .slice s.m.a s.m.n s.m.c] 59) = W1 at *
  go_wp2_with fail
  refine LK.mono ?_
  rintro e w2 ⟨q, rfl, hat, f2⟩
  obtain ⟨p, rfl, hP, hsm⟩ := hat.2 link_main
  have g2 : Fr no w w2 := HF1.out.new f2 (fun _ _ f => f)
  have LN := link_any w2 (HT.out.1.kept g2) (HT.out.2.kept g2) _ _ (cs_nil w2) (fun c hc => by simp at hc) (by decide)
  rw [link_nil] at LN
  have HP : Hid (∀ w', Fr no w2 w' → Prg w' p (allC [mainC]) (newC [mainC]).2.2) := fun w' hf => hP.keep hf
  have HG2 : Hid (Fr no w w2) := g2
  clear hat hP f2 g2 LK hW1
  go_wp2_with fail
  refine LN.mono ?_
  rintro e w3 ⟨q3, rfl, -, f3⟩
  have LA := layout_any w3 p _ _ (HP.out w3 f3) hsm ⟨#[77, 97, 105, 110]⟩ (by decide) 2 main_ix (by rw [main_slots]; decide)
  rw [main_words] at LA
  clear LN
  go_wp2_with fail
  refine LA.mono ?_
  rintro e w4 ⟨nm, x, y, z, rfl, f4⟩
  have f4' : Fr no w2 w4 := f3.new f4 (fun _ _ f => f)
  have HF4 : Hid (Fr no w2 w4) := f4'
  clear LA f3 f4 f4'
  have g5 : Fr no w2 (w4.alloc (.cells #[.string nm, .slice x.a x.n x.c, .slice y.a y.n y.c, .int .i64 3, .slice z.a z.n z.c] 42)) := HF4.out.alloc _ _
  have E5 : (w4.alloc (.cells #[.string nm, .slice x.a x.n x.c, .slice y.a y.n y.c, .int .i64 3, .slice z.a z.n z.c] 42)).heap[w4.heap.size]? = some (.cells #[.string nm, .slice x.a x.n x.c, .slice y.a y.n y.c, .int .i64 3, .slice z.a z.n z.c] 42 (0, 0)) := heap_alloc_new w4 _
  have FA := field_any _ p _ _ (HP.out _ g5) ⟨#[77, 97, 105, 110]⟩ ⟨#[110]⟩ (by decide) (by decide)
  obtain ⟨tt, htt, hat⟩ := Option.map_eq_some_iff.1 main_field
  rw [htt] at FA
  simp only [Option.isSome_some] at FA
  have HE5 : Hid (_ ∧ _) := ⟨E5, g5⟩
  clear E5 g5 htt
  generalize hW5 : w4.alloc (.cells #[.string nm, .slice x.a x.n x.c, .slice y.a y.n y.c, .int .i64 3, .slice z.a z.n z.c] 42) = W5 at *
  go_wp2_with fail
  refine FA.mono ?_
  rintro e w6 ⟨t6, rfl, ht6, -, f6⟩
  obtain rfl := ht6 tt rfl
  unfold slV
  have G6 : Fr no w6 (w6.alloc (.cells #[.string t6.cls, .string t6.f.name, .int .i64 t6.f.ty.k, .string t6.f.ty.c, .bool t6.f.vol, .int .i64 t6.at'] 35)) := (Fr.refl no w6).alloc _ _
  have g7 : Fr no w2 (w6.alloc (.cells #[.string t6.cls, .string t6.f.name, .int .i64 t6.f.ty.k, .string t6.f.ty.c, .bool t6.f.vol, .int .i64 t6.at'] 35)) := (HE5.out.2.new f6 (fun _ _ f => f)).new G6 (fun _ _ f => f)
  have NU := fun w' hf => number_any w' p _ _ (HP.out w' hf) ⟨#[77, 97, 105, 110]⟩ (by decide)
  simp only [main_ix] at NU
  have NA := fun w' hf => name_any w' p _ _ (HP.out w' hf) 1 (by decide)
  rw [cls_one] at NA
  have z3 := cell_at (o := 3) (G6.heap (f6.heap HE5.out.1 (fun f => f)) (fun f => f))
  have z5 := cell_at (o := 5) (show (w6.alloc (.cells #[.string t6.cls, .string t6.f.name, .int .i64 t6.f.ty.k, .string t6.f.ty.c, .bool t6.f.vol, .int .i64 t6.at'] 35)).heap[w6.heap.size]? = some (.cells #[.string t6.cls, .string t6.f.name, .int .i64 t6.f.ty.k, .string t6.f.ty.c, .bool t6.f.vol, .int .i64 t6.at'] 35 (0, 0)) from heap_alloc_new w6 _)
  simp only [List.getElem?_toArray, List.getElem?_cons_zero, List.getElem?_cons_succ, hat] at z3 z5
  have HG7 : Hid (_) := g7
  have HNU : Hid (_) := NU
  have HNA : Hid (_) := NA
  clear FA f6 G6 g7 NU NA
  simp only [hat]
  simp only [hat] at HG7
  generalize hW7 : w6.alloc (.cells #[.string t6.cls, .string t6.f.name, .int .i64 t6.f.ty.k, .string t6.f.ty.c, .bool t6.f.vol, .int .i64 2] 35) = W7 at *
  go_wp2_with fail
  refine (HNU.out W7 HG7.out).mono ?_
  rintro e w8 ⟨rfl, f8⟩
  have g8 : Fr no w2 w8 := HG7.out.new f8 (fun _ _ f => f)
  have HG8 : Hid (_) := g8
  clear f8 g8 z3 z5
  go_wp2_with fail
  refine (HNA.out w8 HG8.out).mono ?_
  rintro e w9 ⟨rfl, f9⟩
  have g9 : Fr no w w9 := HG2.out.new (HG8.out.new f9 (fun _ _ f => f)) (fun _ _ f => f)
  clear f9
  go_wp2_with fail
  go_ret
  exact ⟨rfl, g9⟩
end Go.Proofs.YtcbpmahekgkjlaaGreatDoor

/- Classes each below the one ahead of it, without memory. -/
namespace Go.Proofs.YtcbpmahekgkjlaaGreatDoor
open H (ix up words nameAt newH obj fault)

def lt (i : Nat) : ByteArray := ⟨#[UInt8.ofNat (65 + i)]⟩
def fnm (i : Nat) : ByteArray := ⟨#[102, UInt8.ofNat (65 + i)]⟩
def sm : ByteArray := ⟨#[109]⟩
def fdOf (k i : Nat) : Fd := ⟨fnm i, ⟨(k : Int), e0⟩, false⟩
def supL (i : Nat) : ByteArray := if i = 0 then e0 else lt (i - 1)
def msL (h : Bool) : List Mt := if h = true then [retM sm] else []
def chC (k : Nat) (h : Bool) (i : Nat) : Cl := ⟨lt i, supL i, [], [fdOf k i], msL h⟩
def chs (kd : Nat → Nat) (hs : Nat → Bool) (n : Nat) : List Cl := (List.range n).map fun i => chC (kd i) (hs i) i
def chain (kd : Nat → Nat) (hs : Nat → Bool) (n : Nat) : List Cl := mainC :: chs kd hs n
def chN (n : Nat) : List ByteArray := sMain :: (List.range n).map lt
def chA (n : Nat) : List Nat := 0 :: 0 :: 0 :: (List.range n).map fun i => if i = 0 then 0 else i + 2

theorem ch_chk0 : ∀ i : Fin 12, ∀ k : Fin 3, ∀ h : Bool, chk (chC (k.val + 1) h i.val) = 0 := by decide +kernel
theorem ch_new0 : ∀ n : Fin 13, newH (chN n.val) (e0 :: (List.range n.val).map supL) = (0, obj :: fault :: chN n.val, chA n.val) := by decide +kernel
theorem ch_up0 : ∀ n : Fin 13, ∀ i : Fin 12, i.val < n.val → (up (chA n.val) (n.val + 3) (i.val + 3)).1 = (0 :: List.range' 3 (i.val + 1)).reverse := by decide +kernel
theorem ch_up20 : ∀ n : Fin 13, (up (chA n.val) (n.val + 3) 2).1 = [2, 0] ∧ (up (chA n.val) (n.val + 3) 1).1 = [1, 0] ∧ (up (chA n.val) (n.val + 3) 0).1 = [0] := by decide +kernel
theorem ch_ix0 : ∀ n : Fin 13, ∀ i : Fin 12, i.val < n.val → ix (lt i.val) (obj :: fault :: chN n.val) = some (i.val + 3) := by decide +kernel
theorem ch_ix20 : ∀ n : Fin 13, ix sMain (obj :: fault :: chN n.val) = some 2 := by decide +kernel
theorem fn_ne0 : ∀ i j : Fin 12, fnm i.val = fnm j.val → i = j := by decide +kernel
theorem fn_main0 : ∀ i : Fin 12, fnm i.val ≠ ⟨#[99]⟩ ∧ fnm i.val ≠ ⟨#[110]⟩ := by decide +kernel
theorem main_chk : chk mainC = 0 := by decide +kernel

section
variable {kd : Nat → Nat} {hs : Nat → Bool} {n : Nat}

theorem chain_len : (allC (chain kd hs n)).length = n + 3 := by simp [allC, chain, chs]
theorem chain_names : namesOf (allC (chain kd hs n)) = obj :: fault :: chN n := by
  simp only [namesOf, allC, chain, chs, chN, List.map_cons, List.map_map]
  rfl
theorem chain_at {i : Nat} (hi : i < n) : clsAt (allC (chain kd hs n)) (i + 3) = chC (kd i) (hs i) i := by
  unfold clsAt allC chain chs
  rw [List.getD_eq_getElem?_getD]
  simp [List.getElem?_range hi]
theorem chain_new (hn : n ≤ 12) : newC (chain kd hs n) = (0, obj :: fault :: chN n, chA n) := by
  have h := ch_new0 ⟨n, by omega⟩
  rw [← h]
  unfold newC chain chs
  simp only [List.map_cons, List.map_map]
  rfl
theorem chain_up {i : Nat} (hn : n ≤ 12) (hi : i < n) : (up (chA n) (n + 3) (i + 3)).1 = (0 :: List.range' 3 (i + 1)).reverse := ch_up0 ⟨n, by omega⟩ ⟨i, by omega⟩ hi
theorem chain_ix {i : Nat} (hn : n ≤ 12) (hi : i < n) : ix (lt i) (obj :: fault :: chN n) = some (i + 3) := ch_ix0 ⟨n, by omega⟩ ⟨i, by omega⟩ hi
theorem fn_ne {i j : Nat} (hi : i < 12) (hj : j < 12) (h : fnm i = fnm j) : i = j := by
  have := fn_ne0 ⟨i, hi⟩ ⟨j, hj⟩ h
  simpa using this

theorem layN_app (Cs : List Cl) : ∀ (l1 l2 : List Nat) (y : Li), layN Cs y (l1 ++ l2) = layN Cs (layN Cs y l1) l2
  | [], _, _ => rfl
  | _ :: r, l2, _ => layN_app Cs r l2 _

def wd (kd : Nat → Nat) : Nat → Int
  | 0 => 0
  | i + 1 => wd kd i + words ⟨(kd i : Int), e0⟩
def near (hs : Nat → Bool) : Nat → Option (Nat × Nat)
  | 0 => none
  | i + 1 => if hs i = true then some (i + 3, 0) else near hs i
def slt (kd : Nat → Nat) (i : Nat) : Slt := ⟨lt i, fdOf (kd i) i, wd kd i⟩

structure Laid (kd : Nat → Nat) (hs : Nat → Bool) (i : Nat) (y : Li) : Prop where
  len : y.slots.length = i
  words : y.words = wd kd i
  at' : ∀ j, j < i → y.slots[j]? = some (slt kd j)
  fm : ∀ j, j < i → y.fm (fnm j) = some j
  mm : y.mm sm = near hs i

theorem laid_take {i : Nat} {y : Li} (h : Laid kd hs i y) (hi : i < 12) : Laid kd hs (i + 1) (takeC y (i + 3) (chC (kd i) (hs i) i)) := by
  have e : takeC y (i + 3) (chC (kd i) (hs i) i) = takeMs (i + 3) 0 (takeF (lt i) y (fdOf (kd i) i)) (msL (hs i)) := rfl
  rw [e]
  have k : ∀ h' : Bool, (takeMs (i + 3) 0 (takeF (lt i) y (fdOf (kd i) i)) (msL h')).slots = y.slots ++ [⟨lt i, fdOf (kd i) i, y.words⟩] ∧ (takeMs (i + 3) 0 (takeF (lt i) y (fdOf (kd i) i)) (msL h')).words = y.words + H.words ⟨(kd i : Int), e0⟩ ∧ (takeMs (i + 3) 0 (takeF (lt i) y (fdOf (kd i) i)) (msL h')).fm = (fun s => if fnm i = s then some y.slots.length else y.fm s) ∧ (takeMs (i + 3) 0 (takeF (lt i) y (fdOf (kd i) i)) (msL h')).mm sm = if h' = true then some (i + 3, 0) else y.mm sm := fun h' => by
    cases h'
    · exact ⟨rfl, rfl, rfl, rfl⟩
    · refine ⟨rfl, rfl, rfl, ?_⟩
      rw [if_pos rfl]
      exact (if_pos rfl : (if sm = sm then some (i + 3, 0) else y.mm sm) = some (i + 3, 0))
  obtain ⟨k1, k2, k3, k4⟩ := k (hs i)
  refine ⟨by rw [k1, List.length_append, h.len]; rfl, by rw [k2, h.words]; rfl, fun j hj => ?_, fun j hj => ?_, by rw [k4, h.mm]; rfl⟩
  · rw [k1]
    by_cases hji : j < i
    · rw [List.getElem?_append_left (by rw [h.len]; exact hji)]
      exact h.at' j hji
    · obtain rfl : j = i := by omega
      rw [List.getElem?_append_right (by rw [h.len]; exact Nat.le_refl _), h.len, Nat.sub_self]
      simp only [List.getElem?_cons_zero, h.words]
      rfl
  · rw [k3]
    show (if fnm i = fnm j then some y.slots.length else y.fm (fnm j)) = some j
    by_cases hji : j < i
    · rw [if_neg (fun e => by have := fn_ne hi (by omega) e; omega)]
      exact h.fm j hji
    · obtain rfl : j = i := by omega
      rw [if_pos rfl, h.len]

theorem laid_range (hn : n ≤ 12) (y : Li) (h : Laid kd hs 0 y) : ∀ i, i ≤ n → Laid kd hs i (layN (allC (chain kd hs n)) y (List.range' 3 i))
  | 0, _ => h
  | i + 1, hi => by
    rw [List.range'_concat, layN_app, Nat.one_mul]
    show Laid kd hs (i + 1) (takeC _ (3 + i) (clsAt _ (3 + i)))
    rw [Nat.add_comm 3 i, chain_at (by omega)]
    exact laid_take (laid_range hn y h i (by omega)) (by omega)

theorem lay_chain (hn : n ≤ 12) {i : Nat} (hi : i < n) : Laid kd hs (i + 1) (lay (allC (chain kd hs n)) (chA n) (i + 3)) := by
  unfold lay
  rw [chain_len, chain_up hn hi, List.reverse_reverse]
  exact laid_range hn _ ⟨rfl, rfl, fun j hj => by omega, fun j hj => by omega, rfl⟩ (i + 1) (by omega)

theorem firstN_none {α : Type} {f : α → Nat} : ∀ {l : List α}, (∀ x ∈ l, f x = 0) → firstN f l = 0
  | [], _ => rfl
  | x :: r, h => by
    unfold firstN
    rw [if_neg (by rw [h x List.mem_cons_self]; simp)]
    exact firstN_none fun y hy => h y (List.mem_cons_of_mem _ hy)

theorem cases_at (P : Nat → Prop) (h0 : P 0) (h1 : P 1) (h2 : P 2) (h3 : ∀ i, i < n → P (i + 3)) : ∀ x ∈ List.range (n + 3), P x := fun x hx => by
  rw [List.mem_range] at hx
  match x, hx with
  | 0, _ => exact h0
  | 1, _ => exact h1
  | 2, _ => exact h2
  | i + 3, hx => exact h3 i (by omega)

theorem strange_no (N : List ByteArray) (k : Nat) (h3 : k ≤ 3) : strange N ⟨(k : Int), e0⟩ = false := by
  unfold strange
  rw [decide_eq_false (show ¬ ((k : Int) = 4) by omega)]
  rfl
theorem noCls_ch (N : List ByteArray) (k : Nat) (h : Bool) (i : Nat) (h3 : k ≤ 3) : noCls N (chC k h i) = false := by
  unfold noCls
  have e1 : (chC k h i).fields.any (fun f => strange N f.ty) = false := by
    show ([fdOf k i].any _) = false
    simp only [List.any_cons, List.any_nil, Bool.or_false]
    exact strange_no N k h3
  rw [e1]
  cases h <;> rfl
theorem shares_ch (k k' : Nat) (h h' : Bool) (i j : Nat) (hi : i < 12) (hj : j < 12) (hne : i ≠ j) : shares (chC k h i) (chC k' h' j) = false := by
  show ([fdOf k i].any fun f => [fdOf k' j].any fun g => decide (f.name = g.name)) = false
  simp only [List.any_cons, List.any_nil, Bool.or_false]
  exact decide_eq_false fun e => hne (fn_ne hi hj e)
theorem differ_ch (k k' : Nat) (h h' : Bool) (i j : Nat) : differ (chC k h i) (chC k' h' j) = false := by
  cases h <;> cases h' <;> rfl
theorem shares_obj (c : Cl) : shares c objC = false := by
  unfold shares
  rw [List.any_eq_false]
  intro f _
  simp [objC]
theorem differ_obj (c : Cl) : differ c objC = false := by
  unfold differ
  rw [List.any_eq_false]
  intro f _
  simp [objC]

theorem mem_zero (hn : n ≤ 12) (hk : ∀ i, kd i ≤ 3) : ∀ x ∈ List.range (allC (chain kd hs n)).length, memE (allC (chain kd hs n)) (chA n) x = 0 := by
  rw [chain_len]
  obtain ⟨u2, u1, u0⟩ := ch_up20 ⟨n, by omega⟩
  refine cases_at _ ?_ ?_ ?_ fun i hi => ?_
  · unfold memE above
    rw [chain_len, u0]
    rfl
  · unfold memE above
    rw [chain_len, u1]
    rfl
  · unfold memE above
    rw [chain_len, u2]
    rfl
  · unfold memE above
    rw [chain_at hi, noCls_ch _ _ _ _ (hk i), chain_len, chain_up hn hi, List.range'_concat, List.reverse_cons, List.reverse_append, Nat.one_mul, Nat.add_comm 3 i]
    simp only [List.reverse_cons, List.reverse_nil, List.nil_append, List.cons_append, List.drop_succ_cons, List.drop_zero, List.map_append, List.map_cons, List.map_nil, List.any_append, List.any_cons, List.any_nil, Bool.or_false]
    have a1 : ∀ q : Cl → Bool, (∀ j, j < i → q (chC (kd j) (hs j) j) = false) → ((List.range' 3 i).reverse.map (clsAt (allC (chain kd hs n)))).any q = false := fun q hq => by
      rw [List.any_eq_false]
      intro c hc
      obtain ⟨x, hx, rfl⟩ := List.mem_map.1 hc
      rw [List.mem_reverse, List.mem_range'_1] at hx
      obtain ⟨j, rfl⟩ : ∃ j, x = j + 3 := ⟨x - 3, by omega⟩
      rw [chain_at (by omega), hq j (by omega)]
      simp
    have o0 : clsAt (allC (chain kd hs n)) 0 = objC := rfl
    rw [a1 _ (fun j hj => shares_ch _ _ _ _ _ _ (by omega) (by omega) (by omega)), a1 _ (fun j hj => differ_ch _ _ _ _ _ _), o0, shares_obj, differ_obj]
    rfl

theorem pool_zero : ∀ x ∈ List.range (allC (chain kd hs n)).length, poolE (allC (chain kd hs n)) (layAll (allC (chain kd hs n)) (chA n)) x = 0 := by
  rw [chain_len]
  refine cases_at _ rfl rfl rfl fun i hi => ?_
  unfold poolE
  rw [chain_at hi]
  rfl

theorem main_lay (hn : n ≤ 12) : lay (allC (chain kd hs n)) (chA n) 2 = takeC (takeC (li0 mainC) 0 objC) 2 mainC := by
  obtain ⟨u2, -, -⟩ := ch_up20 ⟨n, by omega⟩
  unfold lay
  rw [chain_len, u2]
  rfl

theorem main_zero (hn : n ≤ 12) : mainE (allC (chain kd hs n)) (layAll (allC (chain kd hs n)) (chA n)) = 0 := by
  have f : findOf (namesOf (allC (chain kd hs n))) (layAll (allC (chain kd hs n)) (chA n)) sMain smain = some (2, 0) := by
    unfold findOf
    rw [chain_names, ch_ix20 ⟨n, by omega⟩]
    simp only
    rw [layAll_get (by rw [chain_len]; omega), main_lay hn]
    rfl
  unfold mainE
  rw [f]
  rfl

theorem chain_link (hn : n ≤ 12) (hk : ∀ i, kd i = 1 ∨ kd i = 2 ∨ kd i = 3) : linkE (chain kd hs n) = 0 := by
  have hk3 : ∀ i, kd i ≤ 3 := fun i => by have := hk i; omega
  have c0 : firstN chk (chain kd hs n) = 0 := firstN_none fun x hx => by
    unfold chain at hx
    rw [List.mem_cons] at hx
    rcases hx with rfl | hx
    · exact main_chk
    · obtain ⟨i, hi, rfl⟩ := List.mem_map.1 hx
      rw [List.mem_range] at hi
      have := ch_chk0 ⟨i, by omega⟩ ⟨kd i - 1, by have := hk i; omega⟩ (hs i)
      rw [show kd i - 1 + 1 = kd i by have := hk i; omega] at this
      exact this
  unfold linkE
  rw [c0, if_neg (by simp), chain_new hn, if_neg (by simp)]
  unfold checkE
  rw [firstN_none (mem_zero hn hk3), if_neg (by simp), firstN_none pool_zero, if_neg (by simp), main_zero hn]
  rfl

/-! ### Questions -/
theorem chain_field (hn : n ≤ 12) {i j : Nat} (hi : i < n) (hj : j ≤ i) : fieldOf (namesOf (allC (chain kd hs n))) (layAll (allC (chain kd hs n)) (newC (chain kd hs n)).2.2) (lt i) (fnm j) = some (slt kd j) := by
  unfold fieldOf
  rw [chain_names, chain_ix hn hi, chain_new hn]
  simp only
  rw [layAll_get (by rw [chain_len]; omega)]
  have L := lay_chain (kd := kd) (hs := hs) hn hi
  simp only
  rw [L.fm j (by omega)]
  exact L.at' j (by omega)
theorem chain_above (hn : n ≤ 12) {j : Nat} (hj : j < n) : fieldOf (namesOf (allC (chain kd hs n))) (layAll (allC (chain kd hs n)) (newC (chain kd hs n)).2.2) sMain (fnm j) = none := by
  unfold fieldOf
  rw [chain_names, ch_ix20 ⟨n, by omega⟩, chain_new hn]
  simp only
  rw [layAll_get (by rw [chain_len]; omega), main_lay hn]
  obtain ⟨n1, n2⟩ := fn_main0 ⟨j, by omega⟩
  have e : (takeC (takeC (li0 mainC) 0 objC) 2 mainC).fm (fnm j) = if (⟨#[110]⟩ : ByteArray) = fnm j then some 1 else if (⟨#[99]⟩ : ByteArray) = fnm j then some 0 else none := rfl
  simp only
  rw [e, if_neg (fun x => n2 x.symm), if_neg (fun x => n1 x.symm)]
theorem chain_words (hn : n ≤ 12) {i : Nat} (hi : i < n) : (lay (allC (chain kd hs n)) (newC (chain kd hs n)).2.2 (i + 3)).words = wd kd (i + 1) := by
  rw [chain_new hn]
  exact (lay_chain hn hi).words
theorem chain_slots (hn : n ≤ 12) {i : Nat} (hi : i < n) : (lay (allC (chain kd hs n)) (newC (chain kd hs n)).2.2 (i + 3)).slots.length ≤ 1000 := by
  rw [chain_new hn, (lay_chain hn hi).len]
  omega
theorem chain_ix' (hn : n ≤ 12) {i : Nat} (hi : i < n) : ix (lt i) (namesOf (allC (chain kd hs n))) = some (i + 3) := by
  rw [chain_names]
  exact chain_ix hn hi
theorem chain_find (hn : n ≤ 12) {i : Nat} (hi : i < n) : findOf (namesOf (allC (chain kd hs n))) (layAll (allC (chain kd hs n)) (newC (chain kd hs n)).2.2) (lt i) sm = near hs (i + 1) := by
  unfold findOf
  rw [chain_names, chain_ix hn hi, chain_new hn]
  simp only
  rw [layAll_get (by rw [chain_len]; omega)]
  exact (lay_chain hn hi).mm
end
end Go.Proofs.YtcbpmahekgkjlaaGreatDoor
