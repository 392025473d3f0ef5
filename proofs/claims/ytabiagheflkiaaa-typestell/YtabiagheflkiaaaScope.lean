/- A law of the walk: a scope in which the run jumps to a label: what holds at each jump, and a measure that each pass from the label lowers. -/
import Derived.ScopeJumps
namespace Go.Proofs.Ytabiagheflkiaaa
section
variable {P : Program} {a : Act} {w : World} {Q : Exit → Act → World → Prop}

/-- As Q; by a goto to a label l: J l. -/
def jumps (J : Nat → Act → World → Prop) (Q : Exit → Act → World → Prop) : Exit → Act → World → Prop
  | .goto l, a, w => J l a w
  | e, a, w => Q e a w

theorem wp_labels {c : Code} (J : Nat → Act → World → Prop) (μ : Nat → Act → World → Nat)
    (first : c.wp P (jumps J Q) a w)
    (pass : ∀ l a w, J l a w → ∃ R, findLabel c l = some (.seq .skip R) ∧ R.wp P (jumps (fun l' a' w' => J l' a' w' ∧ μ l' a' w' < μ l a w) Q) a w) : (Code.scope c).wp P Q a w := by
  intro b k cs
  have key : ∀ n l a w, μ l a w = n → J l a w → ∃ e a' w', Q e a' w' ∧ ∃ k0, gotoIn l (.inScope c :: k) = some k0 ∧ Arrives P (lone (b.at a k0) cs w) b k cs e a' w' := by
    intro n
    induction n using Nat.strongRecOn with
    | _ n ih =>
      intro l a w hn hJ
      obtain ⟨R, hf, hR⟩ := pass l a w hJ
      have hg : gotoIn l (.inScope c :: k) = some (.code (.seq .skip R) :: .inScope c :: k) := by simp [gotoIn, hf]
      obtain ⟨e, a₁, w₁, hq, harr⟩ := hR b (.inScope c :: k) cs
      have hs : Steps P (lone (b.at a (.code (.seq .skip R) :: .inScope c :: k)) cs w) (lone (b.at a (.code R :: .inScope c :: k)) cs w) :=
        .head step_seq (.one step_skip)
      have harr' := Arrives.of_steps hs harr
      cases e with
      | normal => exact ⟨.normal, a₁, w₁, hq, _, hg, Steps.trans harr' (.one step_inScope)⟩
      | exit id => exact ⟨.exit id, a₁, w₁, hq, _, hg, fun k' hk => harr' k' (by simp [exitTo, hk])⟩
      | goto l' =>
        obtain ⟨hJ', hlt⟩ := hq
        obtain ⟨e₂, a₂, w₂, hq₂, k2, hg2, harr₂⟩ := ih _ (by omega) l' a₁ w₁ rfl hJ'
        exact ⟨e₂, a₂, w₂, hq₂, _, hg, .of_steps (harr' _ hg2) harr₂⟩
      | ret => exact ⟨_, a₁, w₁, hq, _, hg, harr'⟩
      | panic ch => exact ⟨_, a₁, w₁, hq, _, hg, harr'⟩
      | outgrown => exact ⟨_, a₁, w₁, hq, _, hg, harr'⟩
  obtain ⟨e, a₁, w₁, hq, harr⟩ := first b (.inScope c :: k) cs
  cases e with
  | normal => exact ⟨.normal, a₁, w₁, hq, .head step_scope (Steps.trans harr (.one step_inScope))⟩
  | exit id => exact ⟨.exit id, a₁, w₁, hq, fun k' hk => .head step_scope (harr k' (by simp [exitTo, hk]))⟩
  | goto l' =>
    obtain ⟨e₂, a₂, w₂, hq₂, k2, hg2, harr₂⟩ := key _ l' a₁ w₁ rfl hq
    exact ⟨e₂, a₂, w₂, hq₂, .of_steps (.head step_scope (harr _ hg2)) harr₂⟩
  | ret => exact ⟨_, a₁, w₁, hq, .of_steps (.one step_scope) harr⟩
  | panic ch => exact ⟨_, a₁, w₁, hq, .of_steps (.one step_scope) harr⟩
  | outgrown => exact ⟨_, a₁, w₁, hq, .of_steps (.one step_scope) harr⟩

/-- One label. 'K': what is wanted behind, a letter: the walks carry nothing of it. -/
theorem wp_label_one {c R0 : Code} (l0 : Nat) (J0 : Act → World → Prop) (μ : Act → World → Nat) (hf0 : findLabel c l0 = some (.seq .skip R0))
    (first : ∀ K : Exit → Act → World → Prop, (∀ a w, J0 a w → R0.wp P K a w) → (∀ a w, Q .ret a w → K .ret a w) → (∀ a w, Q .normal a w → K .normal a w) → c.wp P K a w)
    (pass0 : ∀ a w, J0 a w → ∀ K : Exit → Act → World → Prop, (∀ a' w', J0 a' w' → μ a' w' < μ a w → K (.goto l0) a' w') → (∀ a w, Q .ret a w → K .ret a w) → (∀ a w, Q .normal a w → K .normal a w) → R0.wp P K a w) :
    (Code.scope c).wp P Q a w := by
  refine wp_labels (fun l a w => l = l0 ∧ J0 a w) (fun _ => μ) ?_ ?_
  · exact first _ (fun a w h => pass0 a w h _ (fun _ _ h' _ => ⟨rfl, h'⟩) (fun _ _ h' => h') (fun _ _ h' => h')) (fun _ _ h => h) (fun _ _ h => h)
  · rintro l a w ⟨rfl, h⟩
    exact ⟨R0, hf0, pass0 a w h _ (fun _ _ h' hl => ⟨⟨rfl, h'⟩, hl⟩) (fun _ _ h' => h') (fun _ _ h' => h')⟩

/-- Two labels, the second of them left by a return, with no jump behind it. -/
theorem wp_label_two {c R0 R1 : Code} (l0 l1 : Nat) (hne : l1 ≠ l0) (J0 J1 : Act → World → Prop) (μ : Act → World → Nat) (hf0 : findLabel c l0 = some (.seq .skip R0)) (hf1 : findLabel c l1 = some (.seq .skip R1))
    (first : ∀ K : Exit → Act → World → Prop, (∀ a w, J0 a w → R0.wp P K a w) → (∀ a w, J1 a w → K (.goto l1) a w) → (∀ a w, Q .ret a w → K .ret a w) → c.wp P K a w)
    (pass0 : ∀ a w, J0 a w → ∀ K : Exit → Act → World → Prop, (∀ a' w', J0 a' w' → μ a' w' < μ a w → K (.goto l0) a' w') → (∀ a w, J1 a w → K (.goto l1) a w) → (∀ a w, Q .ret a w → K .ret a w) → R0.wp P K a w)
    (pass1 : ∀ a w, J1 a w → ∀ K : Exit → Act → World → Prop, (∀ a w, Q .ret a w → K .ret a w) → R1.wp P K a w) :
    (Code.scope c).wp P Q a w := by
  refine wp_labels (fun l a w => l = l0 ∧ J0 a w ∨ l = l1 ∧ J1 a w) (fun l a w => if l = l0 then μ a w + 1 else 0) ?_ ?_
  · exact first _ (fun a w h => pass0 a w h _ (fun _ _ h' _ => Or.inl ⟨rfl, h'⟩) (fun _ _ h' => Or.inr ⟨rfl, h'⟩) (fun _ _ h' => h')) (fun _ _ h' => Or.inr ⟨rfl, h'⟩) (fun _ _ h => h)
  · rintro l a w (⟨rfl, hj⟩ | ⟨rfl, hj⟩)
    · refine ⟨R0, hf0, pass0 a w hj _ (fun a' w' h' hl => ⟨Or.inl ⟨rfl, h'⟩, ?_⟩) (fun a' w' h' => ⟨Or.inr ⟨rfl, h'⟩, ?_⟩) (fun _ _ h' => h')⟩
      · simp only [if_true]; omega
      · rw [if_pos rfl, if_neg hne]; omega
    · exact ⟨R1, hf1, pass1 a w hj _ (fun _ _ h' => h')⟩
end
end Go.Proofs.Ytabiagheflkiaaa
