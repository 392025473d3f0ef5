/- Alloc and Release of both arenas. -/
import Derived.Test.YtopcbcdigllenaaRn
namespace Go.Proofs.Ytopcbcdigllenaa
open Go.ChangeShapes Go.WideShapes Go.ChangeAt Go.RowKit

theorem two_alloc {w wr : World} {p g q n : Nat} {bs : List Blk} {T : List Ob} (h : Pl w wr p g q n bs T) (a b : Int) (ha : a ≤ 9223372036854775807) :
    ∃ (pl er : Int) (bs' : List Blk), (Calls Try.prog 11 #[.pointer (some ⟨p, 0, none⟩), .int .i64 a, .int .i64 b] wr fun e w3 => e = .returned (.tuple #[.int .i64 pl, .int .i64 er]) ∧ Hf w w3 p g q n bs' T ∧ ∀ s x, Bx wr s x → Bx w3 s x) ∧
      ∀ w3, Hf w w3 p g q n bs' T → Calls Try.prog 12 #[.pointer (some ⟨q, 0, none⟩), .int .i64 a, .int .i64 b] w3 fun e w4 => e = .returned (.tuple #[.int .i64 pl, .int .i64 er]) ∧ ∃ T', Pl w w4 p g q n bs' T' ∧ ∀ s x, Bx w3 s x → Bx w4 s x := by
  by_cases hbad : a < 0 ∨ b < 0
  · refine ⟨0, 111, bs, (alloc_bad wr p a b hbad).mono fun e w3 ⟨h1, h2⟩ => ?_, fun w3 h3 => (refAlloc_bad w3 q a b hbad).mono fun e w4 ⟨h1, h2⟩ => ?_⟩
    · subst h2
      exact ⟨h1, h.hf, fun _ _ x => x⟩
    · subst h2
      exact ⟨h1, T, ⟨h3, h.lk, h.cl⟩, fun _ _ x => x⟩
  · obtain ⟨c, rfl⟩ : ∃ c : Nat, a = (c : Int) := ⟨a.toNat, by omega⟩
    obtain ⟨m, rfl⟩ : ∃ m : Nat, b = (m : Int) := ⟨b.toNat, by omega⟩
    have AL := alloc_nat wr p g bs h.hf.hp c m (by omega)
    have hlen := h.lk.len.1
    have hle := h.lk.le
    have hfree := h.lk.free
    rw [← h.lk.gaps] at hfree
    have hpg : placeG (m : Int) (gaps (n : Int) 1 T) = rmA (roomAt m bs) := by rw [h.lk.gaps, placeG_rm]
    cases hr : roomAt m bs with
    | none =>
      rw [hr, (roomAt_none hr).2] at AL
      rw [hr] at hpg
      refine ⟨0, 110, bs, AL.mono fun e w3 ⟨h1, h2, h3⟩ => ⟨h1, h.hf.prog h2 h3⟩, fun w3 h3 => ?_⟩
      refine (refAlloc_none w3 q g (n : Int) T h3.rr (by omega) h.lk.low (by omega) c m hfree.1 hfree.2 hpg).mono fun e w4 ⟨h1, h2⟩ => ⟨h1, T, ⟨h3.keep h2, h.lk, h.cl⟩, fun s x hb => hb.keep h2 (fun f => f)⟩
    | some o =>
      rw [hr] at AL
      rw [hr] at hpg
      obtain ⟨A, B, rfl, hA, hB, hm, hlk⟩ := h.lk.alloc (c := c) hr
      refine ⟨(o : Int) + 1, 0, allocB c m bs, AL.mono fun e w3 ⟨h1, h2, h3⟩ => ⟨h1, h.hf.prog h2 h3⟩, fun w3 h3 => ?_⟩
      refine (refAlloc_some w3 q g (n : Int) A B h3.rr h3.rb h3.fr.size (lt_of_heap h3.hp.row) (by omega) h.lk.low (by omega) c m hm hfree.1 hfree.2 ((o : Int) + 1) hpg (by omega) hA hB).mono fun e w4 ⟨h1, bb, h2, h4, h5⟩ => ?_
      obtain ⟨k1, k2⟩ := h3.doc h2 h4 h5
      refine ⟨h1, _, ⟨k1, hlk _, fun x hx => ?_⟩, k2⟩
      rcases List.mem_append.1 hx with hx | hx
      · exact h.cl x (List.mem_append_left _ hx)
      · rcases List.mem_cons.1 hx with rfl | hx
        · simp only []
          omega
        · exact h.cl x (List.mem_append_right _ hx)

/-- The program's Release beside the document's arena, in whatever state that is. -/
theorem rel_prog {w wr : World} {p g q n : Nat} {bs : List Blk} {T : List Ob} (h : Hf w wr p g q n bs T) (a : Int) (ha : a ≤ 9223372036854775807) :
    Calls Try.prog 13 #[.pointer (some ⟨p, 0, none⟩), .int .i64 a] wr fun e w3 => e = .returned (.int .i64 (errA (beg bs a))) ∧ Hf w w3 p g q n (freeB bs a) T ∧ ∀ s x, Bx wr s x → Bx w3 s x :=
  (release_any wr p g bs h.hp a ha).mono fun _ _ ⟨h1, h2, h3⟩ => ⟨h1, h.prog h2 h3⟩

theorem refRelease_none (w : World) (q g : Nat) (size : Int) (T : List Ob) (h : RR w q g size T) (a : Int) (hl : T.length ≤ 3000) (hfo : findO T a = none) :
    Calls Try.prog 14 #[.pointer (some ⟨q, 0, none⟩), .int .i64 a] w fun e w' => e = .returned (.int .i64 (errA false)) ∧ w' = w := by
  have FD := find_any w q g size T h a hl
  rw [hfo] at FD
  simp only [fdA] at FD
  clear h hfo
  go_enter Try.func14, Try.ntmps14
  go_wp2_with fail
  refine FD.mono ?_
  rintro e w1 ⟨rfl, rfl⟩
  go_wp2_with fail
  go_ret
  exact ⟨rfl, rfl⟩

theorem rel_doc {w wr : World} {p g q n : Nat} {bs : List Blk} {T : List Ob} (h : Hf w wr p g q n bs T) (a : Int) (hl : T.length ≤ 3000) :
    Calls Try.prog 14 #[.pointer (some ⟨q, 0, none⟩), .int .i64 a] wr fun e w3 => e = .returned (.int .i64 (errA (findO T a).isSome)) ∧ Hf w w3 p g q n bs (match findO T a with | some i => T.take i ++ T.drop (i + 1) | none => T) ∧ ∀ s x, Bx wr s x → Bx w3 s x := by
  cases hf : findO T a with
  | none =>
    refine (refRelease_none wr q g (n : Int) T h.rr a hl hf).mono fun e w3 ⟨h1, h2⟩ => ?_
    subst h2
    exact ⟨h1, h, fun _ _ x => x⟩
  | some i =>
    have RL := refRelease_any wr q g (n : Int) T h.rr a hl
    rw [hf] at RL
    refine RL.mono fun e w3 ⟨h1, h2, h3, h4⟩ => ⟨h1, h.doc h2 ⟨h.rb.low, fun v hv k hk => ?_, fun o ho k hk => ?_⟩ (h3.mono fun k hk e => ?_)⟩
    · have := h4 rfl v hv k hk
      have := h.fr.size
      omega
    · rcases List.mem_append.1 ho with ho | ho
      · exact h.rb.b o (List.mem_of_mem_take ho) k hk
      · exact h.rb.b o (List.mem_of_mem_drop ho) k hk
    · subst e
      obtain ⟨v0, hq0, -, -⟩ := h.rr.cellv
      exact ⟨h.rb.low, _, 43, hq0, .inl rfl⟩
end Go.Proofs.Ytopcbcdigllenaa
