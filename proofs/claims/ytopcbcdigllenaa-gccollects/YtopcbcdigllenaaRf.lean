/- The document's arena in memory; its New, Find. -/
import Derived.Test.YtopcbcdigllenaaTh
import Derived.Test.YtopcbcdigllenaaVw
namespace Go.Proofs.Ytopcbcdigllenaa
open Go.ChangeShapes Go.WideShapes Go.ChangeAt Go.RowKit

/-- An object of the document's: its address, class, words, the block that they lie in. -/
structure Ob where
  at_ : Int
  cls : Nat
  ws : List Nat
  blk : Option Nat

def Ob.told (o : Ob) : Int × Nat × List Nat := (o.at_, o.cls, o.ws)
def Ob.sl (o : Ob) : Value := .slice (o.blk.map fun b => ⟨b, 0, none⟩) o.ws.length o.ws.length
def elO : El Ob := ⟨41, 40, 3, .agg #[.int .i64 0, .int .i64 0, .slice none 0 0], 40, fun o => [.int .i64 o.at_, .int .i64 (o.cls : Int), o.sl]⟩

theorem elO_ok : elO.Ok where
  und := Try.underlying41
  info := by kernel_rfl
  len := fun _ => rfl
  one := fun x u hu => by simp [elO, Ob.sl] at hu; rcases hu with rfl | rfl | rfl <;> rfl
  zlen := by kernel_rfl
  bs := by decide
  pos := by decide

/-- In block q lies the document's arena of that size, with these objects; their words lie in blocks of their own, none of which is g. -/
structure RR (w : World) (q g : Nat) (size : Int) (T : List Ob) : Prop where
  hd : ∃ v, w.heap[q]? = some (.cells #[.int .i64 size, v] 43 (0, 0)) ∧ OwnG elO w v T
  wd : ∀ o ∈ T, ∃ b, o.blk = some b ∧ b ≠ g ∧ w.heap[b]? = some (.cells (cg elU o.ws).toArray 28 (0, 0))
  dup : (T.map (·.blk)).Nodup

/-- Which blocks are the document's arena's. -/
def Mine (w : World) (q : Nat) (T : List Ob) (k : Nat) : Prop := k = q ∨ (∃ v s, w.heap[q]? = some (.cells #[s, v] 43 (0, 0)) ∧ v.ownBlock = some k) ∨ ∃ o ∈ T, o.blk = some k

theorem RR.kept {S : Nat → Prop} {w w' : World} {q g : Nat} {size : Int} {T : List Ob} (h : RR w q g size T) (hf : Fr S w w') (hS : ∀ k, Mine w q T k → ¬ S k) : RR w' q g size T := by
  obtain ⟨v, h1, h2⟩ := h.hd
  refine ⟨⟨v, hf.heap h1 (hS q (.inl rfl)), h2.kept hf (fun k hk => hS k (.inr (.inl ⟨v, _, h1, hk⟩)))⟩, fun o ho => ?_, h.dup⟩
  obtain ⟨b, hb, hg, hc⟩ := h.wd o ho
  exact ⟨b, hb, hg, hf.heap hc (hS b (.inr (.inr ⟨o, ho, hb⟩)))⟩

theorem RR.keep {w w' : World} {q g : Nat} {size : Int} {T : List Ob} (h : RR w q g size T) (hf : Fr no w w') : RR w' q g size T := h.kept hf (fun _ _ f => f)

/-- The arena g turns: the document's doesn't. -/
theorem RR.beside {w w' : World} {q g : Nat} {size : Int} {T : List Ob} (h : RR w q g size T) {cs : Array Value} (hgt : w.heap[g]? = some (.cells cs 28 (0, 0))) (hf : Fr (fun k => k = g) w w') : RR w' q g size T := by
  refine h.kept hf (fun k hk e => ?_)
  subst e
  rcases hk with rfl | ⟨v, s, h1, hk⟩ | ⟨o, ho, hb⟩
  · obtain ⟨v, h1, -⟩ := h.hd
    rw [h1] at hgt
    simp at hgt
  · obtain ⟨v', h1', h2'⟩ := h.hd
    rw [h1] at h1'
    simp at h1'
    obtain ⟨-, rfl⟩ := h1'
    obtain ⟨cur, hc⟩ := h2'.tag hk
    rw [hc] at hgt
    simp [elO] at hgt
  · obtain ⟨b, hb', hg, -⟩ := h.wd o ho
    rw [hb] at hb'
    simp only [Option.some.injEq] at hb'
    exact hg hb'.symm

theorem RR.cells {w : World} {q g : Nat} {size : Int} {T : List Ob} (h : RR w q g size T) : ∃ ad cap, w.cell? ⟨q, 0, none⟩ = some (.int .i64 size) ∧ w.cell? ⟨q, 1, none⟩ = some (.slice ad T.length cap) ∧ RdG elO w (.slice ad T.length cap) T := by
  obtain ⟨v, h1, h2⟩ := h.hd
  obtain ⟨ad, cap, rfl⟩ := h2.form
  exact ⟨ad, cap, by simp [World.cell?, h1], by simp [World.cell?, h1], h2.rd elO_ok⟩

theorem RdG.at3 {w : World} {o : Option Addr} {n c : Nat} {l : List Ob} (h : RdG elO w (.slice o n c) l) {i : Nat} {x : Ob} (hx : l[i]? = some x) :
    ∃ b off, o = some ⟨b, off, none⟩ ∧ w.cell? ⟨b, off + i * 3, none⟩ = some (.int .i64 x.at_) ∧ w.cell? ⟨b, off + i * 3 + 1, none⟩ = some (.int .i64 (x.cls : Int)) ∧ w.cell? ⟨b, off + i * 3 + 2, none⟩ = some x.sl := by
  obtain ⟨ad, cap, he, -, -, hit⟩ := h
  obtain ⟨b, off, hb, hc⟩ := hit i x hx
  simp only [Value.slice.injEq] at he
  exact ⟨b, off, by rw [he.1, hb], hc 0 _ rfl, hc 1 _ rfl, hc 2 _ rfl⟩

/-- Where the object of that address is. -/
def findO (T : List Ob) (a : Int) : Option Nat := T.findIdx? (fun o => o.at_ == a)

def fdA : Option Nat → Int
  | some i => (i : Int)
  | none => -1

theorem findO_none {T : List Ob} {a : Int} {k : Nat} (h : ∀ o ∈ T.take k, o.at_ ≠ a) (hk : T.length ≤ k) : findO T a = none := by
  unfold findO
  rw [List.findIdx?_eq_none_iff]
  intro o ho
  rw [List.take_of_length_le hk] at h
  simpa using h o ho

theorem findO_some {T : List Ob} {a : Int} {k : Nat} {x : Ob} (h : ∀ o ∈ T.take k, o.at_ ≠ a) (hx : T[k]? = some x) (ha : x.at_ = a) : findO T a = some k := by
  unfold findO
  obtain ⟨hlt, rfl⟩ := List.getElem?_eq_some_iff.1 hx
  rw [List.findIdx?_eq_some_iff_getElem]
  refine ⟨hlt, by simpa using ha, fun j hj => ?_⟩
  have : T[j] ∈ T.take k := by
    rw [List.mem_take_iff_getElem]
    exact ⟨j, by omega, rfl⟩
  simpa using h _ this

set_option maxRecDepth 100000 in
theorem find_any (w : World) (q g : Nat) (size : Int) (T : List Ob) (h : RR w q g size T) (a : Int) (hl : T.length ≤ 3000) :
    Calls Try.prog 15 #[.pointer (some ⟨q, 0, none⟩), .int .i64 a] w fun e w' => e = .returned (.int .i64 (fdA (findO T a))) ∧ w' = w := by
  obtain ⟨ad, cap, -, hc, hr⟩ := h.cells
  have HR : Hid (RdG elO w (.slice ad T.length cap) T) := hr
  clear h hr
  generalize hn : T.length = n at *
  go_enter Try.func15, Try.ntmps15
  go_wp2_with fail
  go_loop [5] (fun i => ∃ (k : Nat), i = .int .i64 (k : Int) ∧ k ≤ n ∧ ∀ o ∈ T.take k, o.at_ ≠ a) (fun i => n - (intOf i).toNat)
  case atStart => exact ⟨0, rfl, Nat.zero_le _, fun o ho => by simp at ho⟩
  case round =>
    obtain ⟨k, rfl, hk, hall⟩ := hrel
    have HA : Hid (∀ o ∈ T.take k, o.at_ ≠ a) := hall
    clear hall
    by_cases hlt : k < n
    · obtain ⟨x, hx⟩ : ∃ x, T[k]? = some x := ⟨_, List.getElem?_eq_getElem (by omega)⟩
      obtain ⟨b, off, had, hc1, -, -⟩ := HR.out.at3 hx
      subst had
      have hlt' : (k : Int) < (n : Int) := by omega
      by_cases he : x.at_ = a
      · have HF : Hid (findO T a = some k) := findO_some HA.out hx he
        have heq : (x.at_ == a) = true := by simp [he]
        clear hx he
        generalize x.at_ = xa at *
        go_wp2_with fail
        go_ret
        exact ⟨by rw [HF.out]; rfl, rfl⟩
      · have HN : Hid (∀ o ∈ T.take (k + 1), o.at_ ≠ a) := fun o ho => by
          rw [take_next T k x hx] at ho
          rcases List.mem_append.1 ho with ho | ho
          · exact HA.out o ho
          · simp at ho
            rw [ho]
            exact he
        have heq : (x.at_ == a) = false := by simp [he]
        clear hx he
        generalize x.at_ = xa at *
        go_wp2_with fail
        go_round
        case rel => exact ⟨k + 1, by go_num, by omega, HN.out⟩
        case measure => simp [intOf]; omega
    · have HF : Hid (findO T a = none) := findO_none HA.out (by omega)
      have hlt' : ¬ ((k : Int) < (n : Int)) := by omega
      go_wp2_with fail
      go_ret
      exact ⟨by rw [HF.out]; rfl, rfl⟩

theorem refNew_run (w : World) (size : Int) : RR (w.alloc (.cells #[.int .i64 size, .slice none 0 0] 43)) w.heap.size 0 size [] ∧ Fr no w (w.alloc (.cells #[.int .i64 size, .slice none 0 0] 43)) :=
  ⟨⟨⟨_, heap_alloc_new w _, OwnG.nil _ _⟩, fun o ho => by simp at ho, List.nodup_nil⟩, (Fr.refl no w).alloc _ _⟩

set_option maxRecDepth 100000 in
theorem refNew_any (w : World) (words : Int) :
    Calls Try.prog 10 #[.int .i64 words] w fun e w' => e = .returned (.pointer (some ⟨w.heap.size, 0, none⟩)) ∧ (∀ g, RR w' w.heap.size g ((sizeN words : Nat) : Int) []) ∧ Fr no w w' := by
  have RN := refNew_run w ((sizeN words : Nat) : Int)
  have HR : Hid ((∀ g, RR (w.alloc (.cells #[.int .i64 ((sizeN words : Nat) : Int), .slice none 0 0] 43)) w.heap.size g ((sizeN words : Nat) : Int) []) ∧ Fr no w (w.alloc (.cells #[.int .i64 ((sizeN words : Nat) : Int), .slice none 0 0] 43))) :=
    ⟨fun g => ⟨RN.1.hd, fun o ho => by simp at ho, List.nodup_nil⟩, RN.2⟩
  clear RN
  have hs : ((sizeN words : Nat) : Int) = min (max words 0) 2048 := by unfold sizeN; omega
  generalize sizeN words = n at *
  by_cases h0 : words < 0
  · have e : Hid (((n : Nat) : Int) = 0) := by rw [Hid]; omega
    rw [e.out] at HR
    have h1 : ¬ ((2048 : Int) < words) := by omega
    have h2 : ¬ ((0 : Int) < words) := by omega
    clear hs
    go_enter Try.func10, Try.ntmps10
    go_wp2_with fail
    go_ret
    exact ⟨rfl, by rw [e.out]; exact HR.out.1, HR.out.2⟩
  · by_cases h1 : 2048 < words
    · have e : Hid (((n : Nat) : Int) = 2048) := by rw [Hid]; omega
      rw [e.out] at HR
      clear hs
      go_enter Try.func10, Try.ntmps10
      go_wp2_with fail
      go_ret
      exact ⟨rfl, by rw [e.out]; exact HR.out.1, HR.out.2⟩
    · have e : Hid (((n : Nat) : Int) = words) := by rw [Hid]; omega
      rw [e.out] at HR
      clear hs
      by_cases h2 : words = 0
      · subst h2
        go_enter Try.func10, Try.ntmps10
        go_wp2_with fail
        go_ret
        exact ⟨rfl, by rw [e.out]; exact HR.out.1, HR.out.2⟩
      · have h3 : (0 : Int) < words := by omega
        go_enter Try.func10, Try.ntmps10
        go_wp2_with fail
        go_ret
        exact ⟨rfl, by rw [e.out]; exact HR.out.1, HR.out.2⟩
end Go.Proofs.Ytopcbcdigllenaa
