/-
  The shape of a slice of ints.
-/
import Derived.Test.YtffecopfikbbbaaAbShp
namespace Go.Proofs.Ytffecopfikbbbaa
open Go.RowKit Go.ChangeShapes
set_option linter.unusedVariables false
theorem shp_ints {n : Nat} {c : CV} (h : Shp Try.prog n 33 c) : ∃ l : List Int, c = .lst (l.map CV.i) := by
  cases n with
  | zero => exact h.elim
  | succ n =>
    rw [Shp, Try.underlying33] at h
    obtain ⟨l, rfl, hl⟩ := h
    obtain ⟨m, h1, _⟩ := list_of CV.i (fun _ => True) (l := l) (fun x hx => by
      obtain ⟨z, hz, _⟩ := shp_int (hl x hx)
      exact ⟨z, hz, trivial⟩)
    exact ⟨m, by rw [h1]⟩
end Go.Proofs.Ytffecopfikbbbaa
