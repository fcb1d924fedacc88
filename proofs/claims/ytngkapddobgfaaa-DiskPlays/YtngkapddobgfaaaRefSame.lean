/-
  What the document's own comparison of bytes (Same) returns.
-/
import Derived.Test.YtngkapddobgfaaaChecked
import Derived.Test.YtngkapddobgfaaaCodeMem
import Derived.Deep.QuietTactic
import Derived.BigQuiet
namespace Go.Proofs.Ytngkapddobgfaaa
open Go.RowKit
set_option linter.unusedVariables false

theorem take_step {xs ys : List Int} {k : Nat} (hx : k < xs.length) (hy : k < ys.length) (h : xs.take k = ys.take k) (e : xs.getD k 0 = ys.getD k 0) : xs.take (k + 1) = ys.take (k + 1) := by
  rw [List.take_succ_eq_append_getElem hx, List.take_succ_eq_append_getElem hy, h]
  simp [hx, hy] at e
  rw [e]

theorem drewN_add (w : World) (a b : Nat) : (w.drewN a).drewN b = w.drewN (a + b) := by simp [World.drewN, Nat.add_assoc]

theorem bool_yes {p : Prop} [Decidable p] (h : p) : Ending.returned (.bool true) = .returned (.bool (decide p)) := by simp [h]
theorem bool_no {p : Prop} [Decidable p] (h : ¬ p) : Ending.returned (.bool false) = .returned (.bool (decide p)) := by simp [h]

set_option maxRecDepth 100000 in
set_option maxHeartbeats 400000 in
theorem same_any (a b : Option Addr) (m n ca cb : Nat) (xs ys : List Int) (w : World) (ha : Bs w a m xs) (hb : Bs w b n ys) (hm : m ≤ 140737488355328) (hn : n ≤ 140737488355328) :
    Calls Try.prog 14 #[.slice a m ca, .slice b n cb] w fun e w' => e = .returned (.bool (decide (xs = ys))) ∧ ∃ nq, w' = w.drewN nq := by
  obtain ⟨a1, a2, a3⟩ := ha
  obtain ⟨b1, b2, b3⟩ := hb
  by_cases hmn : m = n
  · subst hmn
    have hne : ((m : Int) != (m : Int)) = false := by simp
    have HA : Hid (xs.length = m) := a1
    have HB : Hid (ys.length = m) := b1
    clear a1 b1
    go_enter Try.func14, Try.ntmps14
    go_wp2
    go_loopw [5] (fun i wr => ∃ k nq : Nat, i = .int .i64 (k : Int) ∧ k ≤ m ∧ xs.take k = ys.take k ∧ wr = w.drewN nq) (fun i _ => m - (intOf i).toNat)
    case atStart => exact ⟨0, 0, rfl, by omega, rfl, rfl⟩
    case round =>
      obtain ⟨k, nq, rfl, hk, heq, rfl⟩ := hrel
      have HE : Hid (xs.take k = ys.take k) := heq
      clear heq
      by_cases hlt : k < m
      · rcases a3 with a3 | ⟨ba, oa, rfl, hba, hca⟩
        · omega
        rcases b3 with b3 | ⟨bb, ob, rfl, hbb, hcb⟩
        · omega
        obtain ⟨X, hX⟩ : ∃ X, X = xs.getD k 0 := ⟨_, rfl⟩
        obtain ⟨Y, hY⟩ : ∃ Y, Y = ys.getD k 0 := ⟨_, rfl⟩
        have c1 : w.cell? ⟨ba, oa + k, none⟩ = some (.int .u8 X) := by rw [hX]; exact hca k hlt
        have c2 : w.cell? ⟨bb, ob + k, none⟩ = some (.int .u8 Y) := by rw [hY]; exact hcb k hlt
        have HX : Hid (X = xs.getD k 0) := hX
        have HY : Hid (Y = ys.getD k 0) := hY
        clear hca hcb hX hY
        by_cases hxy : X = Y
        · have hne2 : (X != Y) = false := by simpa using hxy
          have HXY : Hid (X = Y) := hxy
          clear hxy
          go_wp2
          go_quiet (fail)
          go_wp2
          go_roundw
          case rel => exact ⟨k + 1, _, by go_num, by omega, take_step (by rw [HA.out]; exact hlt) (by rw [HB.out]; exact hlt) HE.out (by rw [← HX.out, ← HY.out]; exact HXY.out), rfl⟩
          case measure => simp [intOf]; omega
        · have hne2 : (X != Y) = true := by simpa using hxy
          have HXY : Hid (¬ X = Y) := hxy
          clear hxy
          go_wp2
          go_quiet (fail)
          go_wp2
          go_ret
          exact ⟨bool_no (fun h => HXY.out (by rw [HX.out, HY.out, h])), _, drewN_add _ _ _⟩
      · go_wp2
        go_ret
        refine ⟨bool_yes ?_, _, rfl⟩
        have := HE.out
        rwa [List.take_of_length_le (by rw [HA.out]; omega), List.take_of_length_le (by rw [HB.out]; omega)] at this
  · have hne : ((m : Int) != (n : Int)) = true := by simp; omega
    have HA : Hid (¬ xs = ys) := fun h => hmn (by rw [← a1, ← b1, h])
    clear a1 b1 hmn
    go_enter Try.func14, Try.ntmps14
    go_wp2
    go_ret
    exact ⟨bool_no HA.out, 0, rfl⟩

/-- The same, with no more said of the world than that nothing has turned. -/
theorem same_below (a b : Option Addr) (m n ca cb : Nat) (xs ys : List Int) (w : World) (ha : Bs w a m xs) (hb : Bs w b n ys) (hm : m ≤ 140737488355328) (hn : n ≤ 140737488355328) :
    Calls Try.prog 14 #[.slice a m ca, .slice b n cb] w fun e w' => e = .returned (.bool (decide (xs = ys))) ∧ Below w.heap.size w w' :=
  (same_any a b m n ca cb xs ys w ha hb hm hn).mono fun e w' ⟨h, nq, h'⟩ => ⟨h, by rw [h']; exact below_drewN (Below.refl _ _) nq⟩
end Go.Proofs.Ytngkapddobgfaaa
