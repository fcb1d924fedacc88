/-
  slices.Grow (of no slice) and slices.Concat, at []int and at []api.T (made by gen-concat.py).
-/
import Derived.Test.YtmdhefepaolhcaaTmClone
import Derived.Lib.AppendZeros
namespace Go.Proofs.Ytmdhefepaolhcaa
open Go.RowKit
set_option linter.unusedVariables false

/-- The first k rows, one behind the other; how many elements. -/
def joinV (R : Nat → List Value) : Nat → List Value
  | 0 => []
  | k + 1 => joinV R k ++ R k
def lenJ (L : Nat → Nat) : Nat → Nat
  | 0 => 0
  | k + 1 => lenJ L k + L k
theorem lenJ_le (L : Nat → Nat) {k m : Nat} (h : k ≤ m) : lenJ L k ≤ lenJ L m := by
  induction h with
  | refl => exact Nat.le_refl _
  | step h ih => rw [lenJ]; omega

/-- A slice of slices, its rows read as cells. -/
def Rw (size : Nat) (w : World) (a : Option Addr) (m : Nat) (A : Nat → Option Addr) (L C : Nat → Nat) (R : Nat → List Value) : Prop :=
  (∀ r, r < m → (A r = none → L r = 0 ∧ C r = 0) ∧ Cs w (A r) (R r) ∧ (R r).length = L r * size ∧ (∀ u ∈ R r, u.oneCell' = true)) ∧
  (m = 0 ∨ ∃ b off, a = some ⟨b, off, none⟩ ∧ b < w.heap.size ∧ ∀ r, r < m → w.cell? ⟨b, off + r, none⟩ = some (.slice (A r) (L r) (C r)))

theorem Rw.below {B size : Nat} {w w' : World} {a : Option Addr} {m : Nat} {A : Nat → Option Addr} {L C : Nat → Nat} {R : Nat → List Value} (h : Rw size w a m A L C R) (hb : Below B w w') (hB : w.heap.size ≤ B) : Rw size w' a m A L C R := by
  refine ⟨fun r hr => ⟨(h.1 r hr).1, (h.1 r hr).2.1.below hb hB, (h.1 r hr).2.2⟩, ?_⟩
  rcases h.2 with h0 | ⟨b, off, rfl, hlt, hc⟩
  · exact .inl h0
  · exact .inr ⟨b, off, rfl, Nat.lt_of_lt_of_le hlt hb.size, fun r hr => by rw [hb.cell (by show b < B; omega)]; exact hc r hr⟩

theorem info_int : (Try.prog.info? 3).map (fun i => (i.zero, i.size, i.bytes)) = some (some (.int .i64 0), 1, 8) := by kernel_rfl

end Go.Proofs.Ytmdhefepaolhcaa
