/-
  That the chapter's example holds (alive of the crc layer).
-/
import Derived.Test.YtoleabndfajcbaaCrcGet
import Derived.Lib.SmallJoins
namespace Go.Proofs.Ytoleabndfajcbaa
open Go.RowKit Go.Lib
set_option linter.unusedVariables false

def exBytes : List Int := [49, 50, 51, 52, 53, 54, 55, 56, 57]
theorem crc_example : crcOf exBytes = 3421780262 := by kernel_rfl

/-- Bytes in a block of their own, whatever its mark is. -/
theorem bs_new (w : World) (fr : Nat × Nat) (zs : List Int) (hz : ∀ z ∈ zs, 0 ≤ z ∧ z ≤ 255) (g : Nat) (hg : g = w.heap.size) : Bs (w.alloc (.cells (cb zs).toArray 5 fr)) (some ⟨g, 0, none⟩) zs.length zs := by
  subst hg
  refine ⟨rfl, hz, .inr ⟨_, 0, rfl, by simp, fun i hi => ?_⟩⟩
  have e : (⟨w.heap.size, 0 + i, none⟩ : Addr) = ⟨w.heap.size, i, none⟩ := by rw [Nat.zero_add]
  rw [e, World.cell?_alloc_mark]
  simp [cb, hi]

set_option maxRecDepth 100000 in
set_option maxHeartbeats 1000000 in
theorem crcAlive_any (w : World) :
    Calls Try.prog 8 #[] w fun e w' => e = .returned (.bool true) ∧ Below w.heap.size w w' := by
  have kc := Go.Joins.run_convert_bytes_const_at (P := Try.prog) (w.alloc (.cells #[.int .u8 1] 5)) 22 5 (cb exBytes).toArray 9 9 (w.heap.size + 1) (by simp) Try.underlying22 Try.underlying5
  have hbs := bs_new (w.alloc (.cells #[.int .u8 1] 5)) ((cb exBytes).toArray.size, (cb exBytes).toArray.size + 1) exBytes (by decide) (w.heap.size + 1) (by simp)
  have hbel : Below w.heap.size w ((w.alloc (.cells #[.int .u8 1] 5)).alloc (.cells (cb exBytes).toArray 5 ((cb exBytes).toArray.size, (cb exBytes).toArray.size + 1))) := ((Below.refl _ _).alloc (Nat.le_refl _) _).alloc (by simp) _
  have hof := (of_any _ 9 9 exBytes _ hbs (by omega))
  rw [crc_example] at hof
  simp only [cb, exBytes, List.map] at kc hof hbel
  go_enter Try.func8, Try.ntmps8
  go_wp2_with fail
  refine (get_end _ 1 _ _ (by omega)).mono ?_
  rintro e w1 ⟨rfl, rfl⟩
  go_wp2_with fail
  refine hof.mono ?_
  rintro e w1 ⟨rfl, rfl⟩
  go_wp2
  go_ret
  exact ⟨rfl, hbel⟩
end Go.Proofs.Ytoleabndfajcbaa
