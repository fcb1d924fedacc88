/-
  Plain facts on reading a number's bytes: where it ends, what it is, that just its own bytes are read so.
-/
import Derived.Test.YtfcckekinlobjaaCodeMath
import Derived.Laws.BitsAllLaws
namespace Go.Proofs.Ytfcckekinlobjaa
open Go.RowKit
set_option linter.unusedVariables false

/-- Where the first byte below 128 stands. -/
def lastAt : List Int → Option Nat
  | [] => none
  | b :: r => if b < 128 then some 0 else (lastAt r).map (· + 1)

/-- It as an int: -1 where there is none. -/
def lastInt (l : List Int) : Int := match lastAt l with | none => -1 | some i => (i : Int)

theorem lastAt_none : ∀ {l : List Int}, (∀ i, i < l.length → 128 ≤ l.getD i 0) → lastAt l = none
  | [], _ => rfl
  | b :: r, h => by
    have h0 := h 0 (by simp)
    simp at h0
    rw [lastAt, if_neg (by omega), lastAt_none (fun i hi => by have := h (i + 1) (by simp; omega); simpa using this)]
    rfl
theorem lastAt_some : ∀ {l : List Int} {k : Nat}, k < l.length → (∀ i, i < k → 128 ≤ l.getD i 0) → l.getD k 0 < 128 → lastAt l = some k
  | [], k, hk, _, _ => by simp at hk
  | b :: r, 0, _, _, h => by simp at h; rw [lastAt, if_pos h]
  | b :: r, k + 1, hk, hp, h => by
    have h0 := hp 0 (by omega)
    simp at h0
    rw [lastAt, if_neg (by omega), lastAt_some (k := k) (by simpa using hk) (fun i hi => by have := hp (i + 1) (by omega); simpa using this) (by simpa using h)]
    rfl
theorem lastAt_lt : ∀ {l : List Int} {k : Nat}, lastAt l = some k → k < l.length ∧ (∀ i, i < k → 128 ≤ l.getD i 0) ∧ l.getD k 0 < 128
  | [], k, h => by cases h
  | b :: r, k, h => by
    rw [lastAt] at h
    split at h
    · cases h; exact ⟨by simp, by omega, by simpa⟩
    · rename_i hb
      cases hr : lastAt r with
      | none => rw [hr] at h; cases h
      | some j =>
        rw [hr] at h; cases h
        obtain ⟨h1, h2, h3⟩ := lastAt_lt hr
        refine ⟨by simp; omega, fun i hi => ?_, by simpa using h3⟩
        cases i with
        | zero => simp; omega
        | succ i => have := h2 i (by simp at hi; omega); simpa using this

/-- The number that bytes stand for. -/
def val : List Int → Nat
  | [] => 0
  | b :: r => (b % 128).toNat + 128 * val r

theorem val_snoc : ∀ (l : List Int) (b : Int), val (l ++ [b]) = val l + (b % 128).toNat * 128 ^ l.length
  | [], b => by simp [val]
  | c :: r, b => by
    rw [List.cons_append, val, val, val_snoc r b, List.length_cons, Nat.pow_succ, Nat.mul_add, Nat.add_assoc]
    congr 2
    rw [Nat.mul_left_comm, Nat.mul_comm 128]
theorem val_lt : ∀ (l : List Int), val l < 128 ^ l.length
  | [] => by simp [val]
  | c :: r => by
    have := val_lt r
    rw [val, List.length_cons, Nat.pow_succ]
    have h : (c % 128).toNat < 128 := by omega
    omega

/-- Whether bytes of which just the last one ends a number are a number's own. -/
def okNum (l : List Int) : Bool := decide (l.length ≤ 10 ∧ (l.length = 10 → l.getD (l.length - 1) 0 ≤ 1) ∧ (l.getD (l.length - 1) 0 ≠ 0 ∨ l.length = 1))

theorem andNot128 (X : Int) (h1 : 0 ≤ X) (h2 : X ≤ 255) : bits .andNot .u8 X 128 = X % 128 := by
  have h : ∀ a : Fin 256, bits .andNot .u8 ((a.val : Nat) : Int) 128 = ((a.val : Nat) : Int) % 128 := by decide +kernel
  have h3 := h ⟨X.toNat, by omega⟩
  simp only [Int.toNat_of_nonneg h1] at h3
  exact h3

theorem pow128 (j : Nat) : (2 : Int) ^ (7 * j) = ((128 ^ j : Nat) : Int) := by
  rw [Int.pow_mul]; simp

theorem join_step (x j : Nat) (X : Int) (hx : x < 128 ^ j) (h1 : 0 ≤ X) (h2 : X ≤ 255) (hj : j ≤ 9) (h9 : j = 9 → X ≤ 1) :
    bits .or .u64 (x : Int) (IntKind.u64.wrap (IntKind.u64.wrap (bits .andNot .u8 X 128) * 2 ^ (7 * j))) = ((x + (X % 128).toNat * 128 ^ j : Nat) : Int) ∧ x + (X % 128).toNat * 128 ^ j < 2 ^ 64 := by
  rw [andNot128 X h1 h2, pow128]
  obtain ⟨c, hc⟩ : ∃ c : Nat, X % 128 = (c : Int) := ⟨(X % 128).toNat, by omega⟩
  have hc7 : c < 128 := by omega
  have hlt : c * 128 ^ j + 128 ^ j ≤ 2 ^ 64 := by
    rcases Nat.lt_or_ge j 9 with hj' | hj'
    · have h8 : 128 ^ j ≤ 128 ^ 8 := Nat.pow_le_pow_right (by decide) (by omega)
      have : c * 128 ^ j ≤ 127 * 128 ^ 8 := Nat.mul_le_mul (by omega) h8
      omega
    · have e : j = 9 := by omega
      subst e
      have := h9 rfl
      have hc1 : c ≤ 1 := by omega
      clear hx
      show c * 9223372036854775808 + 9223372036854775808 ≤ 18446744073709551616
      omega
  have hp : 0 < 128 ^ j := Nat.pow_pos (by decide)
  rw [hc, Int.toNat_natCast]
  simp only [IntKind.wrap_u64]
  have e1 : (c : Int) % 18446744073709551616 = (c : Int) := by omega
  have e2 : ((c : Int) * ((128 ^ j : Nat) : Int)) % 18446744073709551616 = ((c * 128 ^ j : Nat) : Int) := by
    rw [← Int.natCast_mul]; omega
  rw [e1, e2]
  refine ⟨?_, by omega⟩
  rw [u64_or_nat x (c * 128 ^ j) (by omega) (by omega), Nat.or_comm]
  have e3 : 128 ^ j = 2 ^ (7 * j) := by rw [Nat.pow_mul]
  rw [nat_join (7 * j) (c * 128 ^ j) x (by rw [e3]; exact Nat.mul_mod_left _ _) (by rw [← e3]; exact hx), Nat.add_comm]

/-- A number as a whole number. -/
def unzz (n : Nat) : Int := if n % 2 = 0 then ((n / 2 : Nat) : Int) else -((n / 2 : Nat) : Int) - 1

theorem xor_i64_zero (x : Nat) (h : x < 9223372036854775808) : bits .xor .i64 (x : Int) 0 = (x : Int) := by
  unfold bits
  have e : BitVec.ofInt IntKind.i64.bits 0 = 0#64 := rfl
  have e2 : (BitVec.ofInt 64 (x : Int)).toNat = x := ofInt_u64 x (by omega)
  simp only [e]
  show IntKind.i64.wrap (((BitVec.ofInt 64 (x : Int)) ^^^ 0#64).toNat : Int) = _
  rw [BitVec.xor_zero, e2]
  simp [IntKind.wrap, IntKind.bits, IntKind.signed]
  omega
theorem xor_i64_ones (x : Nat) (h : x < 9223372036854775808) : bits .xor .i64 (x : Int) (-1) = -(x : Int) - 1 := by
  unfold bits
  have e2 : (BitVec.ofInt 64 (x : Int)).toNat = x := ofInt_u64 x (by omega)
  show IntKind.i64.wrap (((BitVec.ofInt 64 (x : Int)) ^^^ (BitVec.ofInt 64 (-1))).toNat : Int) = _
  have e : BitVec.ofInt 64 (-1) = BitVec.allOnes 64 := by decide
  rw [e, BitVec.xor_allOnes, BitVec.toNat_not, e2]
  simp [IntKind.wrap, IntKind.bits, IntKind.signed]
  omega

theorem unfold_eq (n : Nat) (hn : n < 2 ^ 64) : bits .xor .i64 ((n : Int) / 2) (wrap64 (-wrap64 (bits .and .u64 (n : Int) 1))) = unzz n := by
  have e1 : bits .and .u64 (n : Int) 1 = ((n % 2 : Nat) : Int) := by
    have := u64_and_nat n 1 (by omega) (by omega)
    rw [nat_mask1] at this
    exact this
  rw [e1, show (n : Int) / 2 = ((n / 2 : Nat) : Int) by omega]
  unfold unzz wrap64
  rcases Nat.mod_two_eq_zero_or_one n with h | h
  · rw [h, if_pos rfl]
    exact xor_i64_zero _ (by omega)
  · rw [h, if_neg (by decide)]
    exact xor_i64_ones _ (by omega)

theorem unzz_zz (n : Int) : unzz (zz n) = n := by
  unfold unzz zz
  split <;> split <;> omega
theorem zz_unzz (n : Nat) : zz (unzz n) = n := by
  unfold unzz zz
  split <;> split <;> omega
end Go.Proofs.Ytfcckekinlobjaa
