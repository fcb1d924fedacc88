/-
  What the functions of the crc layer that only read return: addByte, More, Of; and the document's own Of.
-/
import Derived.Test.YtfcckekinlobjaaCodeMem
import Derived.Test.YtfcckekinlobjaaCrcMath
import Derived.Test.YtfcckekinlobjaaChecked
import Derived.Laws.BitsAllLaws
namespace Go.Proofs.Ytfcckekinlobjaa
open Go.RowKit
set_option linter.unusedVariables false

theorem bits_cs (x : Nat) (hx : x < 2 ^ 32) : bits .xor .u32 ((x : Int) / 2) (bits .and .u32 3988292384 (-bits .and .u32 (x : Int) 1 % 4294967296)) = ((cs x : Nat) : Int) := by
  have e1 : bits .and .u32 (x : Int) 1 = ((x % 2 : Nat) : Int) := by
    have := u32_and_nat x 1 (by omega) (by omega)
    rw [nat_mask1] at this
    exact this
  rw [e1]
  have e2 : (x : Int) / 2 = ((x / 2 : Nat) : Int) := by omega
  rw [e2]
  unfold cs
  rcases Nat.mod_two_eq_zero_or_one x with h | h
  · rw [h]
    have e3 : bits .and .u32 3988292384 (-((0 : Nat) : Int) % 4294967296) = ((0 : Nat) : Int) := by
      have := u32_and_nat 3988292384 0 (by omega) (by omega)
      rw [Nat.and_zero] at this
      exact this
    rw [e3, u32_xor_nat _ _ (by omega) (by omega)]
    simp
  · rw [h]
    have e3 : bits .and .u32 3988292384 (-((1 : Nat) : Int) % 4294967296) = ((3988292384 : Nat) : Int) := by
      have := u32_and_nat 3988292384 4294967295 (by omega) (by omega)
      rw [show 3988292384 &&& 4294967295 = 3988292384 by decide] at this
      exact this
    rw [e3, u32_xor_nat _ _ (by omega) (by omega)]
    simp

theorem getD_wf {zs : List Int} (h : ∀ z ∈ zs, 0 ≤ z ∧ z ≤ 255) (k : Nat) : 0 ≤ zs.getD k 0 ∧ zs.getD k 0 ≤ 255 := by
  rcases Nat.lt_or_ge k zs.length with hk | hk
  · have := h zs[k] (List.getElem_mem hk)
    simpa [hk] using this
  · simp [hk]

theorem cbyte_nat (n c : Nat) : cbyte n (c : Int) = csn 8 (n ^^^ c) := by simp [cbyte]
theorem csn_step (k x : Nat) (h : k < 8) : csn (8 - (k + 1)) (cs x) = csn (8 - k) x := by
  rw [show 8 - k = (8 - (k + 1)) + 1 by omega]; rfl

set_option maxRecDepth 100000 in
set_option maxHeartbeats 400000 in
theorem addByte_any (n c : Nat) (hn : n < 2 ^ 32) (hc : c < 256) (w : World) :
    Calls Try.prog 38 #[.int .u32 (n : Int), .int .u8 (c : Int)] w fun e w' => e = .returned (.int .u32 ((cbyte n c : Nat) : Int)) ∧ w' = w := by
  have e0 : bits .xor .u32 (n : Int) (c : Int) = ((n ^^^ c : Nat) : Int) := u32_xor_nat _ _ (by omega) (by omega)
  have E0 : Hid (n ^^^ c < 2 ^ 32) := Nat.xor_lt_two_pow hn (by omega)
  go_enter Try.func38, Try.ntmps38
  go_wp2
  go_loop [0, 9] (fun s i => ∃ k x : Nat, i = .int .i64 (k : Int) ∧ k ≤ 8 ∧ s = .int .u32 (x : Int) ∧ x < 2 ^ 32 ∧ csn (8 - k) x = cbyte n c) (fun s i => 8 - (intOf i).toNat)
  case atStart => exact ⟨0, n ^^^ c, rfl, by omega, by first | rfl | rw [e0], E0.out, (cbyte_nat n c).symm⟩
  case round =>
    obtain ⟨k, x, rfl, hk, rfl, hx, he⟩ := hrel
    have HE : Hid (csn (8 - k) x = cbyte n c) := he
    clear he
    by_cases hlt : k < 8
    · go_wp2
      refine ⟨⟨k + 1, cs x, by go_num, by omega, by rw [bits_cs x hx], cs_lt hx, by rw [csn_step k x hlt]; exact HE.out⟩, ?_⟩
      simp [intOf]; omega
    · go_wp2
      go_ret
      have := HE.out
      obtain rfl : k = 8 := by omega
      exact ⟨by rw [← this]; rfl, rfl⟩

theorem bits_not (x : Nat) (hx : x < 2 ^ 32) : bits .xor .u32 IntKind.u32.max (x : Int) = ((4294967295 ^^^ x : Nat) : Int) :=
  u32_xor_nat 4294967295 x (by omega) (by omega)

set_option maxRecDepth 100000 in
set_option maxHeartbeats 400000 in
theorem more_any (n : Nat) (hn : n < 2 ^ 32) (a : Option Addr) (m ca : Nat) (zs : List Int) (w : World) (ha : Bs w a m zs) (hm : m ≤ 140737488355328) :
    Calls Try.prog 37 #[.int .u32 (n : Int), .slice a m ca] w fun e w' => e = .returned (.int .u32 ((cmore n zs : Nat) : Int)) ∧ w' = w := by
  obtain ⟨a1, a2, a3⟩ := ha
  have e0 := bits_not n hn
  have A1 : Hid (zs.length = m) := a1
  have A2 : Hid (∀ z ∈ zs, 0 ≤ z ∧ z ≤ 255) := a2
  clear a1 a2
  go_enter Try.func37, Try.ntmps37
  go_wp2
  go_loop [0, 11] (fun s i => ∃ k x : Nat, i = .int .i64 (k : Int) ∧ k ≤ m ∧ s = .int .u32 (x : Int) ∧ x < 2 ^ 32 ∧ x = craw (4294967295 ^^^ n) (zs.take k)) (fun s i => m - (intOf i).toNat)
  case atStart => exact ⟨0, 4294967295 ^^^ n, rfl, by omega, by first | rfl | rw [e0], xor_ones_lt hn, rfl⟩
  case round =>
    obtain ⟨k, x, rfl, hk, rfl, hx, he⟩ := hrel
    have HE : Hid (x = craw (4294967295 ^^^ n) (zs.take k)) := he
    clear he e0
    by_cases hlt : k < m
    · rcases a3 with a3 | ⟨ba, oa, rfl, hba, hca⟩
      · omega
      obtain ⟨hz0, hz1⟩ := getD_wf A2.out k
      obtain ⟨c, hc⟩ : ∃ c : Nat, (c : Int) = zs.getD k 0 := ⟨(zs.getD k 0).toNat, by omega⟩
      have hcell : w.cell? ⟨ba, oa + k, none⟩ = some (.int .u8 (c : Int)) := by rw [hc]; exact hca k hlt
      have HC : Hid ((c : Int) = zs.getD k 0) := hc
      have hc256 : c < 256 := by omega
      clear hca hz0 hz1 hc
      go_wp2_with fail
      refine (addByte_any x c hx hc256 w).mono ?_
      rintro e w1 ⟨rfl, rfl⟩
      go_wp2
      refine ⟨⟨k + 1, cbyte x c, by go_num, by omega, rfl, cbyte_lt hx (by omega), by rw [craw_step _ _ _ (by rw [A1.out]; exact hlt), ← HE.out, ← HC.out]⟩, ?_⟩
      simp [intOf]; omega
    · go_wp2
      go_ret
      refine ⟨?_, rfl⟩
      rw [bits_not x hx, HE.out, List.take_of_length_le (by rw [A1.out]; omega)]
      rfl

set_option maxRecDepth 100000 in
set_option maxHeartbeats 400000 in
theorem of_any (a : Option Addr) (m ca : Nat) (zs : List Int) (w : World) (ha : Bs w a m zs) (hm : m ≤ 140737488355328) :
    Calls Try.prog 34 #[.slice a m ca] w fun e w' => e = .returned (.int .u32 ((crcOf zs : Nat) : Int)) ∧ w' = w := by
  go_enter Try.func34, Try.ntmps34
  go_wp2_with fail
  refine (more_any 0 (by omega) a m ca zs w ha hm).mono ?_
  rintro e w1 ⟨rfl, rfl⟩
  go_wp2
  go_ret
  exact ⟨rfl, rfl⟩

/-- One bit of the document's way: the sum and the byte are halved side by side. -/
theorem ref_step (n c : Nat) : cs (n ^^^ c) = (if n % 2 = c % 2 then n / 2 else n / 2 ^^^ 3988292384) ^^^ c / 2 := by
  unfold cs
  rw [xor_div2, xor_mod2]
  have h1 := Nat.mod_two_eq_zero_or_one n
  have h2 := Nat.mod_two_eq_zero_or_one c
  rcases h1 with h1 | h1 <;> rcases h2 with h2 | h2 <;> simp [h1, h2] <;> ac_rfl
end Go.Proofs.Ytfcckekinlobjaa
