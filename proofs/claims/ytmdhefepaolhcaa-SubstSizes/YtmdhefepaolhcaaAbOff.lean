/-
  Steps that are not done because a step that is not done guards them.
-/
import Derived.Test.YtmdhefepaolhcaaAbLit
namespace Go.Proofs.Ytmdhefepaolhcaa
open Go.RowKit
set_option linter.unusedVariables false
section
variable {P : Program} {w0 : World} {U0 : UX} {nt : Nat} {ops : Array Oper} {o : Oper} {S : Nat → Option AV} {gs : List Nat} {d : Nat}
theorem a_offt {d' : Nat} (hg : Go w0 U0 nt ops o gs S) (hd : o.dst = some d') (hn : Nat.blt d' nt = true) (h5 : Nat.blt d' 100000 = true) : AOp P w0 U0 nt ops o gs [] S [(d', .tup [])] := by
  intro s hs _ a w ⟨D, hv, h⟩ Q K hK
  rw [if_neg (by rw [hg s hs a w D hv h]; simp), hd]
  exact hK _ _ ⟨D, hv, h.put (blt_lt hn) (blt_lt h5) (by unfold AVRep; exact ⟨[], rfl, rfl⟩)⟩
theorem go_off_t {j : Nat} {c : Bool} (hg : o.guard = some (j, c)) (hj : (ops[j]?).bind (·.dst) = some d) (h5 : Nat.blt d 100000 = true) (hS : S d = some (.tup [])) : Go w0 U0 nt ops o [d] S := fun s hs a w D hv h => by
  obtain ⟨v, h1, h2⟩ := h.slot d _ ((hs d (by simp)).trans hS) (blt_lt h5)
  obtain ⟨vs, h3, h4⟩ : ∃ vs : List Value, v = .tuple vs.toArray ∧ VReps (Us w0 U0 D) w [] vs := h2
  simp [Region.wanted, hg, yielded, hj, h1, h3]
end
end Go.Proofs.Ytmdhefepaolhcaa
