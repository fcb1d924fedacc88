/-
  What code.Uint returns at a place of bytes, in one word.
-/
import Derived.Test.YtfcckekinlobjaaFrUint
import Derived.Laws.BytesArg
namespace Go.Proofs.Ytfcckekinlobjaa
open Go.RowKit
set_option linter.unusedVariables false

/-- A number's reading: it, how many bytes it has, the error. -/
def rdU (l : List Int) : Nat × Nat × Nat :=
  match lastAt l with
  | none => (0, 0, 10)
  | some i => if okNum (l.take (i + 1)) then (val (l.take (i + 1)), i + 1, 0) else (0, 0, 7)

theorem uint_err (a : Option Addr) (k cap : Nat) (zs : List Int) (p er : Nat) (w : World) (hb : Bs w a k zs) (hk : k ≤ 70368744177664) (hkc : k ≤ cap) (hp : p ≤ k) (he : rdU (zs.drop p) = (0, 0, er)) (h0 : er ≠ 0) :
    Calls Try.prog 22 #[.slice a k cap, .int .i64 (p : Int)] w fun e w' => e = .returned (.tuple #[.int .u64 0, .int .i64 0, .int .u8 (er : Int)]) ∧ w' = w := by
  unfold rdU at he
  cases hl : lastAt (zs.drop p) with
  | none => rw [hl] at he; cases he; exact uint_end a k cap zs p w hb hk hkc hp hl
  | some i =>
    rw [hl] at he
    cases ho : okNum ((zs.drop p).take (i + 1)) with
    | true => simp [ho] at he
    | false => simp [ho] at he; subst he; exact uint_form a k cap zs p i w hb hk hkc hp hl ho

theorem uint_read (a : Option Addr) (k cap : Nat) (zs : List Int) (p v c : Nat) (w : World) (hb : Bs w a k zs) (hk : k ≤ 70368744177664) (hkc : k ≤ cap) (hp : p ≤ k) (he : rdU (zs.drop p) = (v, c, 0)) :
    Calls Try.prog 22 #[.slice a k cap, .int .i64 (p : Int)] w fun e w' => e = .returned (.tuple #[.int .u64 (v : Int), .int .i64 ((p + c : Nat) : Int), .int .u8 0]) ∧ w' = w := by
  unfold rdU at he
  cases hl : lastAt (zs.drop p) with
  | none => rw [hl] at he; cases he
  | some i =>
    rw [hl] at he
    cases ho : okNum ((zs.drop p).take (i + 1)) with
    | false => simp [ho] at he
    | true => simp [ho] at he; obtain ⟨rfl, rfl⟩ := he; exact uint_ok a k cap zs p i w hb hk hkc hp hl ho

theorem rdU_bounds {l : List Int} {v c : Nat} (hwf : ∀ z ∈ l, 0 ≤ z ∧ z ≤ 255) (h : rdU l = (v, c, 0)) : v < 2 ^ 64 ∧ 1 ≤ c ∧ c ≤ l.length ∧ c ≤ 10 := by
  unfold rdU at h
  cases hl : lastAt l with
  | none => rw [hl] at h; cases h
  | some i =>
    rw [hl] at h
    have h1 := lastAt_lt hl
    cases ho : okNum (l.take (i + 1)) with
    | false => simp [ho] at h
    | true =>
      simp [ho] at h
      obtain ⟨rfl, rfl⟩ := h
      have h2 := of_decide_eq_true ho
      have hlen : (l.take (i + 1)).length = i + 1 := by rw [List.length_take]; omega
      rw [hlen] at h2
      refine ⟨?_, by omega, by omega, by omega⟩
      rcases Nat.lt_or_ge i 9 with h9 | h9
      · have h3 := val_lt (l.take (i + 1))
        rw [hlen] at h3
        have h4 : 128 ^ (i + 1) ≤ 128 ^ 9 := Nat.pow_le_pow_right (by decide) (by omega)
        exact Nat.lt_of_lt_of_le h3 (Nat.le_trans h4 (by decide))
      · have e : i = 9 := by omega
        subst e
        have h5 := h2.2.1 rfl
        have h6 : 9 < l.length := h1.1
        have h7 : l.take (9 + 1) = l.take 9 ++ [l[9]] := List.take_succ_eq_append_getElem h6
        rw [h7, val_snoc]
        have h8 := val_lt (l.take 9)
        have h9 : (l.take 9).length = 9 := by rw [List.length_take]; omega
        rw [h9] at h8 ⊢
        have h10 : (l.take (9 + 1)).getD (9 + 1 - 1) 0 = l[9] := by simp [h6]
        rw [h10] at h5
        have h12 := hwf l[9] (List.getElem_mem h6)
        have h11 : (l[9] % 128).toNat ≤ 1 := by omega
        clear h1 h2 h5 h7 h9 h10 h12 ho hl hlen hwf
        generalize (l[9] % 128).toNat = t at *
        generalize val (l.take 9) = u at *
        have h13 : u < 9223372036854775808 := h8
        show u + t * 9223372036854775808 < 18446744073709551616
        clear h8
        omega


set_option maxRecDepth 100000 in
set_option maxHeartbeats 400000 in
theorem uint_arg (a : Option Addr) (k cap p : Nat) (w : World) (hp : k < p) :
    Calls Try.prog 22 #[.slice a k cap, .int .i64 (p : Int)] w fun e w' => e = .returned (.tuple #[.int .u64 0, .int .i64 0, .int .u8 1]) ∧ w' = w := by
  have h1 : ¬ ((p : Int) < 0) := by omega
  have h2 : (k : Int) < (p : Int) := by omega
  go_enter Try.func22, Try.ntmps22
  go_wp2
  go_ret3
  exact ⟨rfl, rfl⟩
end Go.Proofs.Ytfcckekinlobjaa
