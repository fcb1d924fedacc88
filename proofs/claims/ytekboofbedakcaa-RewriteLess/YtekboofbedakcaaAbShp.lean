/-
  The shapes of terms and of bindings.
-/
import Derived.Test.YtekboofbedakcaaMg8
import Derived.Test.YtekboofbedakcaaAbOpen
import Derived.Test.YtekboofbedakcaaMg2
namespace Go.Proofs.Ytekboofbedakcaa
open Go.RowKit Go.ChangeShapes
set_option linter.unusedVariables false
set_option linter.unusedSimpArgs false
set_option maxRecDepth 100000

theorem wfI64 {n : Int} (h : (Lit.int .i64 n).wf = true) : -9223372036854775808 ≤ n ∧ n ≤ 9223372036854775807 := by
  simpa [Lit.wf, IntKind.min, IntKind.max, IntKind.signed, IntKind.bits] using h
theorem shp_int {n : Nat} {c : CV} (h : Shp Try.prog n 3 c) : ∃ z, c = .i z ∧ -9223372036854775808 ≤ z ∧ z ≤ 9223372036854775807 := by
  cases n with
  | zero => exact h.elim
  | succ n =>
    rw [Shp, Try.underlying3] at h
    obtain ⟨z, h1, h2⟩ := h
    exact ⟨z, h1, wfI64 h2⟩
theorem list_of {α : Type} (f : α → CV) (g : α → Prop) : ∀ {l : List CV}, (∀ x ∈ l, ∃ t : α, x = f t ∧ g t) → ∃ m : List α, l = m.map f ∧ ∀ t ∈ m, g t
  | [], _ => ⟨[], rfl, fun t ht => by cases ht⟩
  | x :: l, h => by
    obtain ⟨t, h1, h2⟩ := h x (by simp)
    obtain ⟨m, h3, h4⟩ := list_of f g (l := l) (fun y hy => h y (List.mem_cons_of_mem _ hy))
    exact ⟨t :: m, by rw [h1, h3]; rfl, fun s hs => by
      rcases List.mem_cons.1 hs with rfl | hs
      · exact h2
      · exact h4 s hs⟩
theorem shp_tm : ∀ (n : Nat) {c : CV}, Shp Try.prog n 25 c → ∃ t : Tm, c = t.cw ∧ t.rng := by
  intro n
  induction n using Nat.strongRecOn with
  | ind n ih =>
    intro c h
    cases n with
    | zero => exact h.elim
    | succ n =>
      rw [Shp, Try.underlying25] at h
      obtain ⟨l, rfl, hl, hf⟩ := h
      match l, hl with
      | [x, y], _ =>
        obtain ⟨z, rfl, hz⟩ := shp_int (hf 0 _ x rfl rfl)
        have hy := hf 1 _ y rfl rfl
        cases n with
        | zero => exact hy.elim
        | succ n =>
          have hy : Shp Try.prog (n + 1) 23 y := hy
          rw [Shp, Try.underlying23] at hy
          obtain ⟨m, rfl, hm⟩ := hy
          obtain ⟨ts, h1, h2⟩ := list_of Tm.cv Tm.rng (l := m) (fun x hx => by
            obtain ⟨t, h1, h2⟩ := ih n (by omega) (hm x hx)
            exact ⟨t, by rw [h1, Tm.cv_eq], h2⟩)
          exact ⟨⟨z, ts⟩, by rw [h1], (Tm.rng_iff _).2 ⟨hz, h2⟩⟩
theorem shp_binds {n : Nat} {c : CV} (h : Shp Try.prog n 87 c) : ∃ l : List Bd, c = .lst (l.map Bd.cv) ∧ ∀ b ∈ l, (-9223372036854775808 ≤ b.v ∧ b.v ≤ 9223372036854775807) ∧ b.t.rng := by
  cases n with
  | zero => exact h.elim
  | succ n =>
    rw [Shp, Try.underlying87] at h
    obtain ⟨l, rfl, hl⟩ := h
    obtain ⟨m, h1, h2⟩ := list_of Bd.cv (fun b => (-9223372036854775808 ≤ b.v ∧ b.v ≤ 9223372036854775807) ∧ b.t.rng) (l := l) (fun x hx => by
      have hx := hl x hx
      cases n with
      | zero => exact hx.elim
      | succ n =>
        have hx : Shp Try.prog (n + 1) 112 x := hx
        rw [Shp, Try.underlying112] at hx
        obtain ⟨l, rfl, hl, hf⟩ := hx
        match l, hl with
        | [x, y], _ =>
          obtain ⟨z, rfl, hz⟩ := shp_int (hf 0 _ x rfl rfl)
          obtain ⟨t, rfl, ht⟩ := shp_tm n (hf 1 _ y rfl rfl)
          exact ⟨⟨z, t⟩, rfl, hz, ht⟩)
    exact ⟨m, by rw [h1], h2⟩
end Go.Proofs.Ytekboofbedakcaa

