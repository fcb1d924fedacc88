/-
  What code.Uint returns at a place that isn't one, and that the chapter's example holds (alive).
-/
import Derived.Test.YtaajmhajeecciaaCodeRef
namespace Go.Proofs.Ytaajmhajeecciaa
open Go.RowKit
set_option linter.unusedVariables false

set_option maxRecDepth 100000 in
set_option maxHeartbeats 400000 in
theorem uint_above (a : Option Addr) (k cap : Nat) (at_ : Nat) (w : World) (hk : k ≤ 70368744177664) (hat : k < at_) :
    Calls Try.prog 16 #[.slice a k cap, .int .i64 (at_ : Int)] w fun e w' => e = .returned (.tuple #[.int .u64 0, .int .i64 0, .int .u8 1]) ∧ w' = w := by
  have h1 : decide ((at_ : Int) < 0) = false := by simp
  have h2 : decide ((k : Int) < (at_ : Int)) = true := by simp; omega
  go_enter Try.func16, Try.ntmps16
  go_wp2
  go_ret3
  exact ⟨rfl, rfl⟩

theorem bytes300 : ubytes 300 = [172, 2] := by decide

set_option maxRecDepth 100000 in
set_option maxHeartbeats 1000000 in
theorem alive_any (w : World) :
    Calls Try.prog 7 #[] w fun e w' => e = .returned (.bool true) ∧ Below w.heap.size w w' := by
  go_enter Try.func7, Try.ntmps7
  go_wp2_with fail
  refine (putUint_any none 0 0 [] 300 (by omega) w (fun _ => ⟨rfl, rfl⟩) ⟨rfl, by simp, .inl rfl⟩ (by omega)).mono ?_
  rintro e w1 ⟨v1, rfl, ho1, hb1⟩
  rw [List.nil_append, bytes300] at ho1
  obtain ⟨a1, c1, rfl, hc1, hnil1, _, _, h3⟩ := ho1.slice
  rcases h3 with h3 | ⟨b, off, rfl, hlt, hcell⟩
  · cases h3
  have e0 : w1.cell? ⟨b, off, none⟩ = some (.int .u8 172) := hcell 0 (by decide)
  have e1 : w1.cell? ⟨b, off + 1, none⟩ = some (.int .u8 2) := hcell 1 (by decide)
  clear ho1 hnil1 hcell
  go_wp2_with fail
  refine (uint_above _ 2 c1 3 w1 (by omega) (by omega)).mono ?_
  rintro e w' ⟨rfl, rfl⟩
  go_wp2_with fail
  refine (len_any 300 (by omega) _).mono ?_
  rintro e w2 ⟨rfl, rfl⟩
  rw [bytes300]
  go_wp2
  go_ret
  exact ⟨rfl, hb1⟩
end Go.Proofs.Ytaajmhajeecciaa
