/-
  What code.Len returns, for every number.
-/
import Derived.Test.YtfcckekinlobjaaChecked
import Derived.Test.YtfcckekinlobjaaCodeMath
import Derived.WalkKit
import Derived.WalkLawsBesides
import Derived.WalkSpells
namespace Go.Proofs.Ytfcckekinlobjaa
open Go.RowKit
set_option linter.unusedVariables false

set_option maxHeartbeats 400000 in
theorem len_any (n : Nat) (hn : n < 2 ^ 64) (w : World) :
    Calls Try.prog 20 #[.int .u64 (n : Int)] w fun e w' => e = .returned (.int .i64 ((ubytes n).length : Int)) ∧ w' = w := by
  go_enter Try.func20, Try.ntmps20
  go_wp2
  go_loop [0, 3] (fun m c => ∃ j k : Nat, m = .int .u64 (j : Int) ∧ j < 2 ^ 64 ∧ c = .int .i64 (k : Int) ∧ k + lenz j = (ubytes n).length) (fun m _ => (intOf m).toNat)
  case atStart => exact ⟨n / 128, 1, by simp, by omega, rfl, (ubytes_length hn).symm⟩
  case round =>
    obtain ⟨j, k, rfl, hj, rfl, hjk⟩ := hrel
    have HJ : Hid (k + lenz j = (ubytes n).length) := hjk
    have hk : k ≤ 10 := by have := ubytes_le n; omega
    clear hjk
    by_cases hz : 0 < j
    · go_wp2
      go_round
      case rel => exact ⟨j / 128, k + 1, by simp, by omega, by go_num, by have h1 := HJ.out; rw [lenz_step hz hj] at h1; omega⟩
      case measure => simp [intOf]; omega
    · go_wp2
      go_ret
      have h1 := HJ.out
      have : j = 0 := by omega
      subst this
      rw [lenz_zero] at h1
      exact ⟨by rw [← h1]; rfl, rfl⟩
end Go.Proofs.Ytfcckekinlobjaa
