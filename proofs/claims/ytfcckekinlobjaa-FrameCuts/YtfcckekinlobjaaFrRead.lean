/-
  What slices.IndexFunc (with code.isLast), code.isNumber and code.join return.
-/
import Derived.Test.YtfcckekinlobjaaCodePut
import Derived.Test.YtfcckekinlobjaaCodeReadMath
namespace Go.Proofs.Ytfcckekinlobjaa
open Go.RowKit
set_option linter.unusedVariables false

theorem ret_bool {a b : Bool} (h : a = b) : Ending.returned (.bool a) = .returned (.bool b) := by rw [h]
theorem ret_int {k : IntKind} {a b : Int} (h : a = b) : Ending.returned (.int k a) = .returned (.int k b) := by rw [h]

set_option maxRecDepth 100000 in
set_option maxHeartbeats 400000 in
theorem isLast_any (c : Int) (w : World) : Calls Try.prog 30 #[.int .u8 c] w fun e w' => e = .returned (.bool (decide (c < 128))) ∧ w' = w := by
  go_enter Try.func30, Try.ntmps30
  go_wp2
  go_ret
  exact ⟨rfl, rfl⟩

theorem val_take {zs : List Int} {j : Nat} (h : j < zs.length) : val (zs.take (j + 1)) = val (zs.take j) + (zs.getD j 0 % 128).toNat * 128 ^ j := by
  rw [List.take_succ_eq_append_getElem h, val_snoc, List.length_take, Nat.min_eq_left (by omega)]
  simp [h]

theorem val_take_lt (zs : List Int) (j : Nat) (h : j ≤ zs.length) : val (zs.take j) < 128 ^ j := by
  have := val_lt (zs.take j)
  rwa [List.length_take, Nat.min_eq_left h] at this

set_option maxRecDepth 100000 in
set_option maxHeartbeats 400000 in
theorem join_any (a : Option Addr) (n cap : Nat) (zs : List Int) (w : World) (hb : Bs w a n zs) (hn : n ≤ 10) (h10 : n = 10 → zs.getD 9 0 ≤ 1) :
    Calls Try.prog 32 #[.slice a n cap] w fun e w' => e = .returned (.int .u64 (val zs : Int)) ∧ w' = w := by
  have H10 : Hid (n = 10 → zs.getD 9 0 ≤ 1) := h10
  clear h10
  go_enter Try.func32, Try.ntmps32
  go_wp2
  go_loop [3, 4, 5, 8] (fun v i c k => ∃ (x j : Nat), v = .int .u64 (x : Int) ∧ x < 2 ^ 64 ∧ k = .int .i64 (j : Int) ∧ j ≤ n ∧ x = val (zs.take j)) (fun v i c k => n - (intOf k).toNat)
  case atStart => exact ⟨0, 0, rfl, by decide, rfl, by omega, rfl⟩
  case round =>
    obtain ⟨x, j, rfl, hx, rfl, hj, hv⟩ := hrel
    have HV : Hid (x = val (zs.take j)) := hv
    clear hv
    by_cases hlt : j < n
    · obtain ⟨b1, b2, b3⟩ := hb
      have HL : Hid (zs.length = n) := b1
      clear b1
      rcases b3 with b3 | ⟨b, off, rfl, hb4, hc⟩
      · omega
      obtain ⟨X, hX⟩ : ∃ X, X = zs.getD j 0 := ⟨_, rfl⟩
      have c1 : w.cell? ⟨b, off + j, none⟩ = some (.int .u8 X) := by rw [hX]; exact hc j hlt
      have hXb : 0 ≤ X ∧ X ≤ 255 := by
        rw [hX, List.getD_eq_getElem?_getD, List.getElem?_eq_getElem (by rw [HL.out]; exact hlt)]
        exact b2 _ (List.getElem_mem _)
      have HX : Hid (X = zs.getD j 0) := hX
      clear hc hX b2
      go_wp2
      go_round
      case rel =>
        have hs := join_step x j X (by rw [HV.out]; exact val_take_lt zs j (by rw [HL.out]; omega)) hXb.1 hXb.2 (by omega) (fun h9 => by rw [HX.out, h9]; exact H10.out (by omega))
        exact ⟨_, j + 1, by rw [hs.1], hs.2, by go_num, by omega, by rw [val_take (by rw [HL.out]; exact hlt), ← HV.out, ← HX.out]⟩
      case measure => simp [intOf]; omega
    · have HL : Hid (zs.length = n) := hb.1
      clear hb
      go_wp2
      go_ret
      exact ⟨ret_int (by rw [HV.out, List.take_of_length_le (by rw [HL.out]; omega)]), rfl⟩

set_option maxRecDepth 100000 in
set_option maxHeartbeats 400000 in
theorem indexFunc_any (a : Option Addr) (n cap : Nat) (zs : List Int) (w : World) (hb : Bs w a n zs) (hn : n ≤ 140737488355328) :
    Calls Try.prog 29 #[.slice a n cap, .func (.func 30) #[] #[]] w fun e w' => e = .returned (.int .i64 (lastInt zs)) ∧ w' = w := by
  go_enter Try.func29, Try.ntmps29
  go_wp2
  go_loop [5, 8] (fun i k => ∃ (j : Nat), k = .int .i64 (j : Int) ∧ j ≤ n ∧ ∀ i, i < j → 128 ≤ zs.getD i 0) (fun _ k => n - (intOf k).toNat)
  case atStart => exact ⟨0, rfl, by omega, by omega⟩
  case round =>
    obtain ⟨j, rfl, hj, hv⟩ := hrel
    have HV : Hid (∀ i, i < j → 128 ≤ zs.getD i 0) := hv
    clear hv
    have HL : Hid (zs.length = n) := hb.1
    by_cases hlt : j < n
    · obtain ⟨b1, b2, b3⟩ := hb
      clear b1
      rcases b3 with b3 | ⟨b, off, rfl, hb4, hc⟩
      · omega
      obtain ⟨X, hX⟩ : ∃ X, X = zs.getD j 0 := ⟨_, rfl⟩
      have c1 : w.cell? ⟨b, off + j, none⟩ = some (.int .u8 X) := by rw [hX]; exact hc j hlt
      have HX : Hid (X = zs.getD j 0) := hX
      clear hc hX b2
      by_cases hX : X < 128
      · have hd : decide (X < 128) = true := by simpa using hX
        go_wp2_with fail
        refine (isLast_any X w).mono ?_
        rintro e w' ⟨rfl, rfl⟩
        go_wp2
        go_ret
        exact ⟨ret_int (by rw [lastInt, lastAt_some (by rw [HL.out]; exact hlt) HV.out (by rw [← HX.out]; exact hX)]), rfl⟩
      · have hd : decide (X < 128) = false := by simpa using hX
        go_wp2_with fail
        refine (isLast_any X w).mono ?_
        rintro e w' ⟨rfl, rfl⟩
        go_wp2
        go_round
        case rel => exact ⟨j + 1, by go_num, by omega, fun i hi => by rcases Nat.lt_or_ge i j with h | h; exact HV.out i h; rw [show i = j by omega, ← HX.out]; omega⟩
        case measure => simp [intOf]; omega
    · clear hb
      go_wp2
      go_ret
      exact ⟨ret_int (by rw [lastInt, lastAt_none (fun i hi => HV.out i (by rw [HL.out] at hi; omega))]), rfl⟩

set_option maxRecDepth 100000 in
set_option maxHeartbeats 400000 in
theorem isNumber_any (a : Option Addr) (n cap : Nat) (zs : List Int) (w : World) (hb : Bs w a n zs) (hn : n ≤ 140737488355328) (h0 : 0 < n) :
    Calls Try.prog 31 #[.slice a n cap] w fun e w' => e = .returned (.bool (okNum zs)) ∧ w' = w := by
  obtain ⟨b1, b2, b3⟩ := hb
  rcases b3 with b3 | ⟨b, off, rfl, hb4, hc⟩
  · omega
  obtain ⟨X, hX⟩ : ∃ X, X = zs.getD (n - 1) 0 := ⟨_, rfl⟩
  have hok : okNum zs = decide (n ≤ 10 ∧ (n = 10 → X ≤ 1) ∧ (X ≠ 0 ∨ n = 1)) := by rw [okNum, b1, hX]
  obtain ⟨m, rfl⟩ : ∃ m, n = m + 1 := ⟨n - 1, by omega⟩
  have c1 : w.cell? ⟨b, off + m, none⟩ = some (.int .u8 X) := by rw [hX]; exact hc m (by omega)
  have HO : Hid (okNum zs = decide (m + 1 ≤ 10 ∧ (m + 1 = 10 → X ≤ 1) ∧ (X ≠ 0 ∨ m + 1 = 1))) := hok
  clear hc hX hok b1 b2
  go_enter Try.func31, Try.ntmps31
  go_wp2
  all_goals go_ret
  all_goals refine ⟨ret_bool ?_, rfl⟩
  all_goals rw [HO.out]
  · exact (decide_eq_false (by omega)).symm
  · exact (decide_eq_false (by omega)).symm
  · exact (decide_eq_false (by omega)).symm
  · exact (decide_eq_true (by omega)).symm
  · rw [Bool.eq_iff_iff, beq_iff_eq, decide_eq_true_iff]; omega
  · exact (decide_eq_true (by omega)).symm
end Go.Proofs.Ytfcckekinlobjaa
