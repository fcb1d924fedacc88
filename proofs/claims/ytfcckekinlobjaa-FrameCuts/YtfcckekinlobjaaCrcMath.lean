/-
  Plain facts on the sum of bytes (a row of 32 bits that is halved bit by bit): no program is named here.
-/
import Derived.WalkKit
namespace Go.Proofs.Ytfcckekinlobjaa
set_option linter.unusedVariables false

/-- One bit further. -/
def cs (n : Nat) : Nat := n / 2 ^^^ (if n % 2 = 1 then 3988292384 else 0)

/-- So many bits further. -/
def csn : Nat → Nat → Nat
  | 0, n => n
  | k + 1, n => csn k (cs n)

theorem csn_add (a b n : Nat) : csn (a + b) n = csn b (csn a n) := by
  induction a generalizing n with
  | zero => simp [csn]
  | succ a ih => rw [Nat.add_right_comm]; simp [csn, ih]

theorem xor_div2 (a b : Nat) : (a ^^^ b) / 2 = a / 2 ^^^ b / 2 := by
  apply Nat.eq_of_testBit_eq; intro i; simp [Nat.testBit_div_two, Nat.testBit_xor]
theorem xor_mod2 (a b : Nat) : (a ^^^ b) % 2 = (a % 2 + b % 2) % 2 := by
  have h := Nat.xor_mod_two_pow (a := a) (b := b) (n := 1)
  rw [Nat.pow_one] at h
  rw [h]
  rcases Nat.mod_two_eq_zero_or_one a with h1 | h1 <;> rcases Nat.mod_two_eq_zero_or_one b with h2 | h2 <;> rw [h1, h2] <;> decide

theorem cs_xor (a b : Nat) : cs (a ^^^ b) = cs a ^^^ cs b := by
  unfold cs
  rw [xor_div2, xor_mod2]
  have h1 := Nat.mod_two_eq_zero_or_one a
  have h2 := Nat.mod_two_eq_zero_or_one b
  have e : ∀ x y p : Nat, x ^^^ y ^^^ p = x ^^^ p ^^^ y := fun x y p => by rw [Nat.xor_assoc, Nat.xor_comm y p, Nat.xor_assoc]
  rcases h1 with h1 | h1 <;> rcases h2 with h2 | h2 <;> simp [h1, h2]
  · rw [Nat.xor_assoc]
  · rw [e]
  · rw [Nat.xor_comm (b / 2) 3988292384, ← Nat.xor_assoc, Nat.xor_assoc (a / 2), Nat.xor_self, Nat.xor_zero]

theorem csn_xor (k a b : Nat) : csn k (a ^^^ b) = csn k a ^^^ csn k b := by
  induction k generalizing a b with
  | zero => rfl
  | succ k ih => simp [csn, cs_xor, ih]

theorem cs_double (n : Nat) : cs (2 * n) = n := by unfold cs; simp
theorem csn_pow (k n : Nat) : csn k (2 ^ k * n) = n := by
  induction k with
  | zero => simp [csn]
  | succ k ih => rw [Nat.pow_succ, Nat.mul_comm (2 ^ k) 2, Nat.mul_assoc]; simp [csn, cs_double, ih]
theorem cs_zero : cs 0 = 0 := by decide
theorem csn_zero (k : Nat) : csn k 0 = 0 := by
  induction k with
  | zero => rfl
  | succ k ih => simp [csn, cs_zero, ih]

theorem cs_lt {n : Nat} (h : n < 2 ^ 32) : cs n < 2 ^ 32 := by
  unfold cs
  apply Nat.xor_lt_two_pow
  · omega
  · split <;> omega
theorem csn_lt {k n : Nat} (h : n < 2 ^ 32) : csn k n < 2 ^ 32 := by
  induction k generalizing n with
  | zero => exact h
  | succ k ih => exact ih (cs_lt h)

/-- Of what isn't 0 one bit further isn't 0 either. -/
theorem cs_ne {n : Nat} (h : n < 2 ^ 32) (hn : n ≠ 0) : cs n ≠ 0 := by
  unfold cs
  split
  · intro e
    have : n / 2 = 3988292384 := by
      have := congrArg (fun x => x ^^^ 3988292384) e
      simpa [Nat.xor_assoc] using this
    omega
  · simp; omega
theorem csn_ne {k n : Nat} (h : n < 2 ^ 32) (hn : n ≠ 0) : csn k n ≠ 0 := by
  induction k generalizing n with
  | zero => exact hn
  | succ k ih => exact ih (cs_lt h) (cs_ne h hn)

/-- One byte further. -/
def cbyte (n : Nat) (z : Int) : Nat := csn 8 (n ^^^ z.toNat)
/-- All bytes further. -/
def craw (n : Nat) (zs : List Int) : Nat := zs.foldl cbyte n
/-- The sum goes on. -/
def cmore (n : Nat) (zs : List Int) : Nat := 4294967295 ^^^ craw (4294967295 ^^^ n) zs
/-- The sum. -/
def crcOf (zs : List Int) : Nat := cmore 0 zs

theorem xor_ones_lt {n : Nat} (h : n < 2 ^ 32) : 4294967295 ^^^ n < 2 ^ 32 := Nat.xor_lt_two_pow (by omega) h
theorem byte_lt {z : Int} (h : 0 ≤ z ∧ z ≤ 255) : z.toNat < 2 ^ 8 := by omega
theorem cbyte_lt {n : Nat} {z : Int} (h : n < 2 ^ 32) (hz : 0 ≤ z ∧ z ≤ 255) : cbyte n z < 2 ^ 32 :=
  csn_lt (Nat.xor_lt_two_pow h (by omega))
theorem craw_lt {n : Nat} {zs : List Int} (h : n < 2 ^ 32) (hz : ∀ z ∈ zs, 0 ≤ z ∧ z ≤ 255) : craw n zs < 2 ^ 32 := by
  induction zs generalizing n with
  | nil => exact h
  | cons z zs ih => exact ih (cbyte_lt h (hz z (by simp))) fun y hy => hz y (by simp [hy])
theorem cmore_lt {n : Nat} {zs : List Int} (h : n < 2 ^ 32) (hz : ∀ z ∈ zs, 0 ≤ z ∧ z ≤ 255) : cmore n zs < 2 ^ 32 :=
  xor_ones_lt (craw_lt (xor_ones_lt h) hz)
theorem crcOf_lt {zs : List Int} (hz : ∀ z ∈ zs, 0 ≤ z ∧ z ≤ 255) : crcOf zs < 2 ^ 32 := cmore_lt (by omega) hz

theorem craw_append (n : Nat) (a b : List Int) : craw n (a ++ b) = craw (craw n a) b := by simp [craw]
theorem xor_twice (a b : Nat) : a ^^^ (a ^^^ b) = b := by rw [← Nat.xor_assoc, Nat.xor_self, Nat.zero_xor]
theorem cmore_append (n : Nat) (a b : List Int) : cmore (cmore n a) b = cmore n (a ++ b) := by
  unfold cmore; rw [xor_twice, craw_append]
theorem cmore_nil (n : Nat) : cmore n [] = n := by simp [cmore, craw, xor_twice]
theorem crcOf_nil : crcOf [] = 0 := cmore_nil 0
theorem craw_step (n : Nat) (zs : List Int) (k : Nat) (hk : k < zs.length) : craw n (zs.take (k + 1)) = cbyte (craw n (zs.take k)) (zs.getD k 0) := by
  rw [List.take_succ_eq_append_getElem hk, craw_append]
  simp [craw, hk]

/-- The number that bytes make, the lowest first. -/
def bval : List Int → Nat
  | [] => 0
  | z :: zs => z.toNat ^^^ 2 ^ 8 * bval zs

theorem mul_xor (k a b : Nat) : 2 ^ k * (a ^^^ b) = 2 ^ k * a ^^^ 2 ^ k * b := by
  have := Nat.shiftLeft_xor_distrib (a := a) (b := b) (i := k)
  simpa [Nat.shiftLeft_eq, Nat.mul_comm] using this

/-- The bytes all at once. -/
theorem craw_eq (n : Nat) (zs : List Int) : craw n zs = csn (8 * zs.length) (n ^^^ bval zs) := by
  induction zs generalizing n with
  | nil => simp [craw, bval, csn]
  | cons z zs ih =>
    show craw (cbyte n z) zs = _
    rw [ih, show 8 * (z :: zs).length = 8 + 8 * zs.length by simp; omega, csn_add]
    congr 1
    show cbyte n z ^^^ bval zs = csn 8 (n ^^^ (z.toNat ^^^ 2 ^ 8 * bval zs))
    rw [← Nat.xor_assoc, csn_xor 8 (n ^^^ z.toNat), csn_pow]
    rfl

theorem crc_diff (a b : List Int) (hl : a.length = b.length) : crcOf a ^^^ crcOf b = csn (8 * a.length) (bval a ^^^ bval b) := by
  unfold crcOf cmore
  rw [craw_eq, craw_eq, ← hl]
  have e : ∀ m x y : Nat, (m ^^^ x) ^^^ (m ^^^ y) = x ^^^ y := fun m x y => by
    rw [Nat.xor_comm m x, Nat.xor_assoc, xor_twice]
  rw [e, ← csn_xor, e]

/-- Bits turned are told. -/
theorem crc_tells (a b : List Int) (hl : a.length = b.length) (t p : Nat) (ht : t < 2 ^ 32) (h0 : t ≠ 0) (hp : p ≤ 8 * a.length) (h : bval a = bval b ^^^ 2 ^ p * t) : crcOf a ≠ crcOf b := by
  intro e
  have := crc_diff a b hl
  rw [e, Nat.xor_self, h, Nat.xor_comm (bval b), Nat.xor_assoc, Nat.xor_self, Nat.xor_zero, show 8 * a.length = p + (8 * a.length - p) by omega, csn_add, csn_pow] at this
  exact csn_ne ht h0 this.symm

/-- One byte turned. -/
theorem bval_set (zs : List Int) (j r : Nat) (hj : j < zs.length) (y : Int) (hy : y.toNat = (zs.getD j 0).toNat ^^^ 2 ^ r) : bval (zs.set j y) = bval zs ^^^ 2 ^ (8 * j + r) := by
  induction zs generalizing j with
  | nil => simp at hj
  | cons z zs ih =>
    cases j with
    | zero =>
      simp at hy
      simp [bval, hy]
      rw [Nat.xor_assoc, Nat.xor_comm (2 ^ r), ← Nat.xor_assoc]
    | succ j =>
      have := ih j (by simpa using hj) (by simpa using hy)
      simp only [List.set_cons_succ, bval, this]
      rw [mul_xor, ← Nat.xor_assoc, show 2 ^ (8 * (j + 1) + r) = 2 ^ 8 * 2 ^ (8 * j + r) by rw [← Nat.pow_add]; congr 1; omega]

/-- The bytes of a word. -/
def wbytes (n : Nat) : List Int := [((n % 256 : Nat) : Int), ((n / 256 % 256 : Nat) : Int), ((n / 65536 % 256 : Nat) : Int), ((n / 16777216 % 256 : Nat) : Int)]
/-- The word of bytes. -/
def bword (zs : List Int) : Nat := (zs.getD 0 0).toNat + 256 * (zs.getD 1 0).toNat + 65536 * (zs.getD 2 0).toNat + 16777216 * (zs.getD 3 0).toNat
theorem wbytes_wf (n : Nat) : ∀ z ∈ wbytes n, 0 ≤ z ∧ z ≤ 255 := by simp [wbytes]; omega
theorem bword_wbytes {n : Nat} (h : n < 2 ^ 32) (zs : List Int) : bword (wbytes n ++ zs) = n := by simp [bword, wbytes]; omega
theorem wbytes_bword {zs : List Int} (hl : zs.length = 4) (hz : ∀ z ∈ zs, 0 ≤ z ∧ z ≤ 255) : wbytes (bword zs) = zs := by
  match zs, hl with
  | [a, b, c, d], _ =>
    simp at hz
    simp [wbytes, bword]
    omega
theorem bword_take (zs : List Int) (k : Nat) (h : 4 ≤ k) : bword (zs.take k) = bword zs := by
  unfold bword
  have e : ∀ i, i < 4 → (zs.take k).getD i 0 = zs.getD i 0 := fun i hi => by simp [List.getD_eq_getElem?_getD, show i < k by omega]
  rw [e 0 (by omega), e 1 (by omega), e 2 (by omega), e 3 (by omega)]
theorem bword_lt {zs : List Int} (hl : 4 ≤ zs.length) (hz : ∀ z ∈ zs, 0 ≤ z ∧ z ≤ 255) : bword zs < 2 ^ 32 := by
  match zs, hl with
  | a :: b :: c :: d :: r, _ =>
    have h1 := hz a (by simp); have h2 := hz b (by simp); have h3 := hz c (by simp); have h4 := hz d (by simp)
    simp [bword]; omega
/-- Words alike are of bytes alike. -/
theorem bword_inj {a b : List Int} (ha : a.length = 4) (hb : b.length = 4) (wa : ∀ z ∈ a, 0 ≤ z ∧ z ≤ 255) (wb : ∀ z ∈ b, 0 ≤ z ∧ z ≤ 255) (h : bword a = bword b) : a = b := by
  rw [← wbytes_bword ha wa, ← wbytes_bword hb wb, h]

/-- Two bytes at a time. -/
def zxor (a b : List Int) : List Int := List.zipWith (fun x y => ((x.toNat ^^^ y.toNat : Nat) : Int)) a b
theorem bval_zxor (a b : List Int) (hl : a.length = b.length) : bval (zxor a b) = bval a ^^^ bval b := by
  induction a generalizing b with
  | nil => cases b <;> simp_all [zxor, bval]
  | cons x a ih =>
    cases b with
    | nil => simp at hl
    | cons y b =>
      have := ih b (by simpa using hl)
      have e : zxor (x :: a) (y :: b) = ((x.toNat ^^^ y.toNat : Nat) : Int) :: zxor a b := rfl
      rw [e, bval, this, bval, bval, mul_xor, Int.toNat_natCast]
      ac_rfl
theorem bval_zeros (n : Nat) : bval (List.replicate n 0) = 0 := by
  induction n with
  | zero => rfl
  | succ n ih => simp [List.replicate_succ, bval, ih]
end Go.Proofs.Ytfcckekinlobjaa
