/-
  Plain facts on the bytes of a number (seven bits a byte, the lowest first), as lists of integers: no program is named here.
-/
import Derived.WalkKit
namespace Go.Proofs.Ytfcckekinlobjaa
set_option linter.unusedVariables false

/-- The bytes of n, with k bytes at most behind the first. -/
def ub : Nat → Nat → List Int
  | 0, n => [(n : Int)]
  | k + 1, n => if n < 128 then [(n : Int)] else ((128 + n % 128 : Nat) : Int) :: ub k (n / 128)

/-- The bytes of a number below 2^64. -/
def ubytes (n : Nat) : List Int := ub 9 n

theorem ub_more : ∀ (k n : Nat), n < 128 ^ (k + 1) → ub (k + 1) n = ub k n
  | 0, n, h => by simp [ub]; omega
  | k + 1, n, h => by
    have h2 := ub_more k (n / 128) (by rw [Nat.pow_succ] at h; exact Nat.div_lt_of_lt_mul (by omega))
    have e1 : ub (k + 1 + 1) n = if n < 128 then [(n : Int)] else ((128 + n % 128 : Nat) : Int) :: ub (k + 1) (n / 128) := rfl
    have e2 : ub (k + 1) n = if n < 128 then [(n : Int)] else ((128 + n % 128 : Nat) : Int) :: ub k (n / 128) := rfl
    rw [e1, e2, h2]

theorem ubytes_small {n : Nat} (h : n < 128) : ubytes n = [(n : Int)] := by simp [ubytes, ub, h]

theorem ubytes_step {n : Nat} (h : 128 ≤ n) (hn : n < 2 ^ 64) : ubytes n = ((128 + n % 128 : Nat) : Int) :: ubytes (n / 128) := by
  show ub 9 n = _ :: ub 9 (n / 128)
  rw [ub_more 8 (n / 128) (by omega)]
  show ub (8 + 1) n = _
  rw [ub, if_neg (by omega)]

/-- How many bytes are left behind the ones that are counted. -/
def lenz (n : Nat) : Nat := if n = 0 then 0 else (ubytes n).length

theorem lenz_zero : lenz 0 = 0 := rfl
theorem lenz_step {n : Nat} (h : 0 < n) (hn : n < 2 ^ 64) : lenz n = 1 + lenz (n / 128) := by
  unfold lenz
  rw [if_neg (by omega)]
  by_cases h' : n < 128
  · rw [ubytes_small h', if_pos (by omega)]; rfl
  · rw [ubytes_step (by omega) hn, if_neg (by omega)]; simp; omega
theorem ubytes_length {n : Nat} (hn : n < 2 ^ 64) : (ubytes n).length = 1 + lenz (n / 128) := by
  by_cases h : n = 0
  · subst h; rfl
  · rw [← lenz_step (by omega) hn]; simp [lenz, h]
theorem ub_length : ∀ (k n : Nat), 1 ≤ (ub k n).length ∧ (ub k n).length ≤ k + 1
  | 0, n => by simp [ub]
  | k + 1, n => by
    rw [ub]; split
    · simp
    · have := ub_length k (n / 128); simp; omega
theorem ubytes_le (n : Nat) : 1 ≤ (ubytes n).length ∧ (ubytes n).length ≤ 10 := ub_length 9 n
theorem lenz_le (n : Nat) : lenz n ≤ 10 := by
  unfold lenz; split
  · omega
  · exact (ubytes_le n).2
theorem ub_wf : ∀ (k n : Nat), n < 128 ^ (k + 1) → ∀ z ∈ ub k n, 0 ≤ z ∧ z ≤ 255
  | 0, n, h, z, hz => by simp [ub] at hz; subst hz; omega
  | k + 1, n, h, z, hz => by
    rw [ub] at hz; split at hz
    · simp at hz; subst hz; omega
    · rcases List.mem_cons.1 hz with rfl | hz
      · omega
      · exact ub_wf k (n / 128) (by rw [Nat.pow_succ] at h; exact Nat.div_lt_of_lt_mul (by omega)) z hz
theorem ubytes_wf {n : Nat} (hn : n < 2 ^ 64) : ∀ z ∈ ubytes n, 0 ≤ z ∧ z ≤ 255 := ub_wf 9 n (by omega)

/-- A whole number as a number from 0 on: 0, -1, 1, -2 .. -/
def zz (n : Int) : Nat := if 0 ≤ n then (2 * n).toNat else (-2 * n - 1).toNat

theorem zz_lt (n : Int) (h1 : -9223372036854775808 ≤ n) (h2 : n < 9223372036854775808) : zz n < 2 ^ 64 := by unfold zz; split <;> omega
end Go.Proofs.Ytfcckekinlobjaa
