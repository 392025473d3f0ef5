/- The document's Place; what its blocks are. -/
import Derived.Test.YtopcbcdigllenaaRg
import Derived.Test.YtopcbcdigllenaaWq
namespace Go.Proofs.Ytopcbcdigllenaa
open Go.ChangeShapes Go.WideShapes Go.ChangeAt Go.RowKit

/-- The first block with room. -/
def placeG (n : Int) : List (Int × Int) → Int
  | [] => 0
  | x :: r => if n ≤ x.2 - 2 then x.1 else placeG n r

theorem placeG_room (n k : Nat) (bs : List Blk) : placeG (n : Int) (freesA k bs) = match roomAt n bs with | some o => (k : Int) + o + 1 | none => 0 := by
  induction bs generalizing k with
  | nil => rfl
  | cons b r ih =>
    cases b with
    | free j =>
      have hlen : (Blk.free j).len = j.length + 1 := rfl
      have hroom : (Blk.free j).room n = decide (n + 1 ≤ j.length) := rfl
      rw [freesA, placeG, roomAt, hroom]
      by_cases h : n + 1 ≤ j.length
      · have h1 : (n : Int) ≤ ((Blk.free j).len : Int) - 2 := by rw [hlen]; omega
        rw [if_pos h1, if_pos (decide_eq_true h)]
        simp
      · have h1 : ¬ ((n : Int) ≤ ((Blk.free j).len : Int) - 2) := by rw [hlen]; omega
        rw [if_neg h1, if_neg (by simpa using h), ih]
        cases roomAt n r with
        | none => rfl
        | some o => simp; omega
    | obj c ws =>
      rw [freesA, roomAt]
      simp only [Blk.room, Bool.false_eq_true, if_false]
      rw [ih (k + (Blk.obj c ws).len)]
      cases roomAt n r with
      | none => rfl
      | some o => simp; omega

theorem placeG_rm (n : Nat) (bs : List Blk) : placeG (n : Int) (freesA 0 bs) = rmA (roomAt n bs) := by
  rw [placeG_room]
  cases roomAt n bs with
  | none => rfl
  | some o => simp [rmA]

/-- The gaps between the objects of blocks that are tight are the free blocks. -/
theorem gaps_frees {f : Bool} {k : Nat} {bs : List Blk} {T : List Ob} (hT : T.map Ob.told = objL k bs) (size : Int) (hs : size = (k : Int) + siz bs) (ht : tight f bs = true) :
    f = false → gaps size ((k : Int) + 1) T = freesA k bs := by
  intro hf
  subst hf
  induction bs generalizing k T with
  | nil =>
    simp only [objL, List.map_eq_nil_iff] at hT
    subst hT
    rw [siz_nil] at hs
    rw [gaps, if_neg (by omega)]
    rfl
  | cons b r ih =>
    rw [siz_cons] at hs
    cases b with
    | obj c ws =>
      cases T with
      | nil => simp [objL] at hT
      | cons o T =>
        simp only [objL, List.map_cons, List.cons.injEq, Ob.told, Prod.mk.injEq] at hT
        obtain ⟨⟨h1, h2, h3⟩, h4⟩ := hT
        rw [gaps, if_neg (by omega), List.nil_append, freesA]
        have := ih (k := k + (Blk.obj c ws).len) h4 (by omega) ht
        rw [← this, h1, h3]
        congr 1
        simp only [Blk.len]
        omega
    | free j =>
      cases r with
      | nil =>
        simp only [objL, List.map_eq_nil_iff] at hT
        subst hT
        rw [siz_nil] at hs
        simp only [Blk.len] at hs
        rw [gaps, if_pos (by omega)]
        simp only [freesA, Blk.len]
        congr 2
        omega
      | cons b2 r2 =>
        cases b2 with
        | free i => simp [tight] at ht
        | obj c ws =>
          cases T with
          | nil => simp [objL] at hT
          | cons o T =>
            have hT' := hT
            simp only [objL, List.map_cons, List.cons.injEq, Ob.told, Prod.mk.injEq] at hT
            obtain ⟨⟨h1, h2, h3⟩, h4⟩ := hT
            have h5 := ih (k := k + (Blk.free j).len) (T := o :: T) hT' (by omega) (by simpa [tight] using ht)
            rw [gaps, if_neg (by omega), List.nil_append] at h5
            rw [gaps, if_pos (by rw [h1]; simp only [Blk.len]; omega), h5, freesA]
            simp only [List.singleton_append, List.cons.injEq, Prod.mk.injEq, true_and, and_true]
            rw [h1]
            simp only [Blk.len]
            omega

set_option maxRecDepth 100000 in
set_option maxHeartbeats 2000000 in
theorem refPlace_any (w : World) (q g : Nat) (size : Int) (T : List Ob) (h : RR w q g size T) (hs : 0 ≤ size ∧ size ≤ 2048) (hT : Low T) (hl : T.length ≤ 3000) (n : Nat) (hgl : ∀ x ∈ gaps size 1 T, 0 ≤ x.2 ∧ x.2 ≤ 5000) (hgn : (gaps size 1 T).length ≤ 3001) :
    Calls Try.prog 39 #[.pointer (some ⟨q, 0, none⟩), .int .i64 (n : Int)] w fun e w' => e = .returned (.int .i64 (placeG (n : Int) (gaps size 1 T))) ∧ Fr no w w' := by
  have RF := refFree_any w q g size T h hs hT hl
  have HGL : Hid (∀ x ∈ gaps size 1 T, 0 ≤ x.2 ∧ x.2 ≤ 5000) := hgl
  clear h hs hT hl hgl
  generalize gaps size 1 T = G at *
  go_enter Try.func39, Try.ntmps39
  go_wp2_with fail
  refine RF.mono ?_
  rintro e w1 ⟨v1, rfl, o1, n1, f1⟩
  obtain ⟨ov, cv, hv⟩ := o1.form
  subst hv
  have H1 : Hid (RdG elB w1 (.slice ov G.length cv) G ∧ Fr no w w1) := ⟨o1.rd elB_ok, f1⟩
  clear o1 n1 f1 RF
  generalize hgl : G.length = gl at *
  go_wp2_with fail
  go_loop [6] (fun i => ∃ (k : Nat), i = .int .i64 (k : Int) ∧ k ≤ gl ∧ placeG (n : Int) G = placeG (n : Int) (G.drop k)) (fun i => gl - (intOf i).toNat)
  case atStart => exact ⟨0, rfl, Nat.zero_le _, rfl⟩
  case round =>
    obtain ⟨k, rfl, hk, hp⟩ := hrel
    have HPG : Hid (placeG (n : Int) G = placeG (n : Int) (G.drop k)) := hp
    clear hp
    by_cases hlt : k < gl
    · obtain ⟨x, hx⟩ : ∃ x, G[k]? = some x := ⟨_, List.getElem?_eq_getElem (by omega)⟩
      obtain ⟨b, off, had, c1, c2⟩ := H1.out.1.at2 hx
      subst had
      have hxb := HGL.out x (List.mem_of_getElem? hx)
      have hdr : G.drop k = x :: G.drop (k + 1) := by
        obtain ⟨h1, h2⟩ := List.getElem?_eq_some_iff.1 hx
        rw [List.drop_eq_getElem_cons h1, h2]
      have hlt' : (k : Int) < (gl : Int) := by omega
      have HQ : Hid (placeG (n : Int) G = if (n : Int) ≤ x.2 - 2 then x.1 else placeG (n : Int) (G.drop (k + 1))) := by rw [Hid, HPG.out, hdr, placeG]
      clear hx hdr
      generalize x.1 = x1 at *
      generalize x.2 = x2 at *
      by_cases hle : (n : Int) ≤ x2 - 2
      · rw [if_pos hle] at HQ
        go_wp2_with fail
        go_ret
        exact ⟨by rw [HQ.out]; rfl, H1.out.2⟩
      · rw [if_neg hle] at HQ
        go_wp2_with fail
        go_round
        case rel => exact ⟨k + 1, by go_num, by omega, HQ.out⟩
        case measure => simp [intOf]; omega
    · have HQ : Hid (placeG (n : Int) G = 0) := by rw [Hid, HPG.out, List.drop_of_length_le (by omega)]; rfl
      have hlt' : ¬ ((k : Int) < (gl : Int)) := by omega
      go_wp2_with fail
      go_ret
      exact ⟨by rw [HQ.out]; rfl, H1.out.2⟩
end Go.Proofs.Ytopcbcdigllenaa
