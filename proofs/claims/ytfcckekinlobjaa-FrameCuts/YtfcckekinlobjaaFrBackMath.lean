/-
  Plain facts: a number's bytes are read as the number, cut short they end nowhere, and what is read is put the same.
-/
import Derived.Test.YtfcckekinlobjaaFrText
namespace Go.Proofs.Ytfcckekinlobjaa
open Go.RowKit
set_option linter.unusedVariables false

/-- Bytes of which each but the last one is 128 or more, and the last one is none of 0 and 128 or more. -/
def canon : List Int → Prop
  | [] => False
  | b :: r => match r with
    | [] => 0 < b ∧ b < 128
    | _ :: _ => 128 ≤ b ∧ b ≤ 255 ∧ canon r

theorem canon_cons {b : Int} {r : List Int} (hb : 128 ≤ b ∧ b ≤ 255) (hr : canon r) : canon (b :: r) := by
  cases r with
  | nil => cases hr
  | cons c t => exact ⟨hb.1, hb.2, hr⟩

theorem canon_ub : ∀ (k n : Nat), 0 < n → n < 128 ^ (k + 1) → canon (ub k n)
  | 0, n, h0, h => ⟨by omega, by omega⟩
  | k + 1, n, h0, h => by
    rw [ub]
    split
    · exact ⟨by omega, by omega⟩
    · exact canon_cons ⟨by omega, by omega⟩ (canon_ub k (n / 128) (by omega) (by rw [Nat.pow_succ] at h; exact Nat.div_lt_of_lt_mul (by omega)))

theorem val_ub : ∀ (k n : Nat), n < 128 ^ (k + 1) → val (ub k n) = n
  | 0, n, h => by simp [ub, val]; omega
  | k + 1, n, h => by
    rw [ub]
    split
    · simp [val]; omega
    · rw [val, val_ub k (n / 128) (by rw [Nat.pow_succ] at h; exact Nat.div_lt_of_lt_mul (by omega))]
      omega

theorem lastAt_canon : ∀ (m r : List Int), canon m → lastAt (m ++ r) = some (m.length - 1)
  | [], _, h => by cases h
  | [b], r, h => by rw [List.singleton_append, lastAt, if_pos h.2]; rfl
  | b :: c :: t, r, h => by
    rw [List.cons_append, lastAt, if_neg (by have := h.1; omega), lastAt_canon (c :: t) r h.2.2]
    simp
theorem lastAt_cut : ∀ (m : List Int) (j : Nat), canon m → j < m.length → lastAt (m.take j) = none
  | [], _, h, _ => by cases h
  | _, 0, _, _ => by rw [List.take_zero]; rfl
  | [b], j + 1, h, hj => by simp at hj
  | b :: c :: t, j + 1, h, hj => by
    rw [List.take_succ_cons, lastAt, if_neg (by have := h.1; omega), lastAt_cut (c :: t) j h.2.2 (by simpa using hj)]
    rfl
theorem canon_last : ∀ (m : List Int), canon m → 0 < m.getD (m.length - 1) 0 ∧ m.getD (m.length - 1) 0 < 128
  | [], h => by cases h
  | [b], h => h
  | b :: c :: t, h => by
    have := canon_last (c :: t) h.2.2
    simpa using this

theorem ubytes_zero : ubytes 0 = [0] := by decide

theorem getLast_split {m : List Int} (h : 0 < m.length) : m = m.take (m.length - 1) ++ [m.getD (m.length - 1) 0] := by
  have := List.take_succ_eq_append_getElem (l := m) (i := m.length - 1) (by omega)
  rw [show m.length - 1 + 1 = m.length by omega, List.take_length] at this
  have e : m.getD (m.length - 1) 0 = m[m.length - 1] := by simp [List.getD_eq_getElem?_getD, List.getElem?_eq_getElem (show m.length - 1 < m.length by omega)]
  rw [e]
  exact this

theorem okNum_ubytes {n : Nat} (hn : n < 2 ^ 64) : okNum (ubytes n) = true := by
  rcases Nat.eq_zero_or_pos n with h0 | h0
  · subst h0; rw [ubytes_zero]; decide
  · have hc : canon (ubytes n) := canon_ub 9 n h0 (by omega)
    have hl := ubytes_le n
    have hlast := canon_last _ hc
    refine decide_eq_true ⟨hl.2, fun h10 => ?_, .inl (by omega)⟩
    have hv : val (ubytes n) = n := val_ub 9 n (by omega)
    rw [getLast_split (m := ubytes n) (by omega), val_snoc, List.length_take, Nat.min_eq_left (by omega), h10] at hv
    rw [h10] at hlast ⊢
    generalize (ubytes n).getD (10 - 1) 0 = t at *
    generalize val (List.take (10 - 1) (ubytes n)) = u at *
    have hv' : u + (t % 128).toNat * 9223372036854775808 = n := hv
    have hn' : n < 18446744073709551616 := hn
    clear hv hn hl hc h10
    omega

theorem rdU_ubytes {n : Nat} (hn : n < 2 ^ 64) (r : List Int) : rdU (ubytes n ++ r) = (n, (ubytes n).length, 0) := by
  have hl := ubytes_le n
  have hlast : lastAt (ubytes n ++ r) = some ((ubytes n).length - 1) := by
    rcases Nat.eq_zero_or_pos n with h0 | h0
    · subst h0; rw [ubytes_zero]; rfl
    · exact lastAt_canon _ r (canon_ub 9 n h0 (by omega))
  unfold rdU
  rw [hlast]
  have e : (ubytes n).length - 1 + 1 = (ubytes n).length := by omega
  simp only [e, List.take_left', okNum_ubytes hn, if_true]
  rw [show val (ubytes n) = n from val_ub 9 n (by omega)]

theorem rdU_cut {n : Nat} (hn : n < 2 ^ 64) {j : Nat} (hj : j < (ubytes n).length) : rdU ((ubytes n).take j) = (0, 0, 10) := by
  have : lastAt ((ubytes n).take j) = none := by
    rcases Nat.eq_zero_or_pos n with h0 | h0
    · subst h0; rw [ubytes_zero] at *; simp at hj; subst hj; rfl
    · exact lastAt_cut _ j (canon_ub 9 n h0 (by omega)) hj
  unfold rdU
  rw [this]

theorem canon_val : ∀ (m : List Int), canon m → 0 < val m
  | [], h => by cases h
  | [b], h => by have := h.1; have := h.2; simp [val]; omega
  | b :: c :: t, h => by have := canon_val (c :: t) h.2.2; rw [val]; omega
theorem canon_same : ∀ (k : Nat) (m : List Int), canon m → m.length ≤ k + 1 → ub k (val m) = m
  | _, [], h, _ => by cases h
  | k, [b], h, _ => by
    have h1 := h.1
    have h2 := h.2
    have e : val [b] = b.toNat := by simp [val]; omega
    rw [e]
    cases k with
    | zero => simp [ub]; omega
    | succ k => rw [ub, if_pos (by omega)]; simp; omega
  | 0, b :: c :: t, _, hl => by simp at hl
  | k + 1, b :: c :: t, h, hl => by
    have h1 := h.1
    have h2 := h.2.1
    have hp := canon_val _ h.2.2
    have ih := canon_same k (c :: t) h.2.2 (by simpa using hl)
    have e : val (b :: c :: t) = (b % 128).toNat + 128 * val (c :: t) := rfl
    rw [e, ub, if_neg (by omega)]
    have e1 : ((b % 128).toNat + 128 * val (c :: t)) / 128 = val (c :: t) := by omega
    have e2 : ((128 + ((b % 128).toNat + 128 * val (c :: t)) % 128 : Nat) : Int) = b := by omega
    rw [e1, e2, ih]
theorem canon_of : ∀ (l : List Int) (i : Nat), (∀ z ∈ l, 0 ≤ z ∧ z ≤ 255) → lastAt l = some i → l.getD i 0 ≠ 0 → canon (l.take (i + 1))
  | [], i, _, h, _ => by cases h
  | b :: r, i, hwf, h, h0 => by
    have hb := hwf b (by simp)
    rw [lastAt] at h
    split at h
    · cases h
      simp at h0
      exact ⟨by omega, by assumption⟩
    · cases hr : lastAt r with
      | none => rw [hr] at h; cases h
      | some j =>
        rw [hr] at h; cases h
        rw [List.take_succ_cons]
        exact canon_cons ⟨by omega, hb.2⟩ (canon_of r j (fun z hz => hwf z (by simp [hz])) hr (by simpa using h0))

theorem rdU_same {l : List Int} {v c : Nat} (hwf : ∀ z ∈ l, 0 ≤ z ∧ z ≤ 255) (h : rdU l = (v, c, 0)) : ubytes v = l.take c := by
  unfold rdU at h
  cases hl : lastAt l with
  | none => rw [hl] at h; cases h
  | some i =>
    rw [hl] at h
    have h1 := lastAt_lt hl
    cases ho : okNum (l.take (i + 1)) with
    | false => simp [ho] at h
    | true =>
      simp [ho] at h
      obtain ⟨rfl, rfl⟩ := h
      have h2 := of_decide_eq_true ho
      have hlen : (l.take (i + 1)).length = i + 1 := by rw [List.length_take]; omega
      rw [hlen] at h2
      have e : (l.take (i + 1)).getD (i + 1 - 1) 0 = l.getD i 0 := by simp [List.getD_eq_getElem?_getD]
      rw [e] at h2
      by_cases h0 : l.getD i 0 = 0
      · have hi : i = 0 := by omega
        subst hi
        cases l with
        | nil => simp at h1
        | cons b r => simp at h0; subst h0; simp [val, ubytes_zero]
      · exact canon_same 9 _ (canon_of l i hwf hl h0) (by omega)
end Go.Proofs.Ytfcckekinlobjaa
