/-
  What slices.Grow (of no slice) and slices.Concat return.
-/
import Derived.Test.YtfcckekinlobjaaCodePut
import Derived.Test.YtfcckekinlobjaaLawRows
import Derived.Test.YtfcckekinlobjaaRowMem
import Derived.Lib.AppendZeros
namespace Go.Proofs.Ytfcckekinlobjaa
open Go.RowKit
set_option linter.unusedVariables false

/-- The first k rows, one behind the other. -/
def joinR (R : Nat → List Int) : Nat → List Int
  | 0 => []
  | k + 1 => joinR R k ++ R k
theorem joinR_step (R : Nat → List Int) (k : Nat) : joinR R (k + 1) = joinR R k ++ R k := rfl
theorem joinR_le (R : Nat → List Int) {k m : Nat} (h : k ≤ m) : (joinR R k).length ≤ (joinR R m).length := by
  induction h with
  | refl => exact Nat.le_refl _
  | step h ih => rw [joinR_step, List.length_append]; omega

theorem Rs.below {B : Nat} {w w' : World} {a : Option Addr} {m : Nat} {A : Nat → Option Addr} {L C : Nat → Nat} {R : Nat → List Int} (h : Rs w a m A L C R) (hb : Below B w w') (hB : w.heap.size ≤ B) : Rs w' a m A L C R := by
  refine ⟨fun r hr => ⟨(h.1 r hr).1, (h.1 r hr).2.1.below hb hB, (h.1 r hr).2.2⟩, ?_⟩
  rcases h.2 with h0 | ⟨b, off, rfl, hlt, hc⟩
  · exact .inl h0
  · exact .inr ⟨b, off, rfl, Nat.lt_of_lt_of_le hlt hb.size, fun r hr => by rw [hb.cell (by show b < B; omega)]; exact hc r hr⟩

set_option maxRecDepth 100000 in
set_option maxHeartbeats 400000 in
theorem growNil_any (n : Nat) (hn : n ≤ 70368744177664) (w : World) :
    Calls Try.prog 26 #[.slice none 0 0, .int .i64 (n : Int)] w fun e w' => ∃ v, e = .returned v ∧ Own w' w.heap.size v [] ∧ Below w.heap.size w w' := by
  obtain ⟨i, hi1, hi2, hi3, hi4⟩ := info_parts info_u8
  rcases Nat.eq_zero_or_pos n with rfl | h0
  · go_enter Try.func26, Try.ntmps26
    go_wp2
    go_ret
    exact ⟨_, rfl, Own.nil _ _, Below.refl _ _⟩
  · have hr := Lib.run_append_nil_zeros (P := Try.prog) w 22 3 22 5 i (.int .u8 0) .i64 .i64 Try.underlying22 Try.underlying3 hi1 hi2 n h0 (by rw [hi3]; omega) (by omega) (by rw [hi4]; omega)
    go_enter Try.func26, Try.ntmps26
    go_wp2_with (at_builtin; refine Lib.wpList_append_run _ rfl _ _ _ _ rfl _ _ rfl rfl _ _ hr ?_)
    go_wp2
    go_ret
    refine ⟨_, rfl, ⟨World.ownsRow_made w.drew _ _ (Nat.le_refl _) (grownCap_le_maxLen _ _ _ _ (by unfold maxLen; omega)) ?_, by simp⟩, (Below.refl _ _).drew.alloc (Nat.le_refl _) _⟩
    have := grownCap_ge w n 0 5
    simp [size_zeroCells]
    omega

set_option maxRecDepth 100000 in
set_option maxHeartbeats 800000 in
theorem concat_any (a : Option Addr) (m c : Nat) (A : Nat → Option Addr) (L C : Nat → Nat) (R : Nat → List Int) (w : World) (hr : Rs w a m A L C R) (hm : m ≤ 1000) (hs : (joinR R m).length ≤ 70368744177664) :
    Calls Try.prog 16 #[.slice a m c] w fun e w' => ∃ v, e = .returned v ∧ Own w' w.heap.size v (joinR R m) ∧ Below w.heap.size w w' := by
  obtain ⟨J, hJ⟩ : ∃ J : Nat → List Int, J = joinR R := ⟨_, rfl⟩
  have HS : Hid (∀ k, J (k + 1) = J k ++ R k) := fun k => by rw [hJ]; rfl
  have HJ0 : Hid (J 0 = []) := by rw [hJ]; rfl
  have HL : Hid (∀ k, k ≤ m → (J k).length ≤ 70368744177664) := fun k hk => by rw [hJ]; exact Nat.le_trans (joinR_le R hk) hs
  have HR : Hid (∀ B w', Below B w w' → w.heap.size ≤ B → Rs w' a m A L C R) := fun B w' hb hB => hr.below hb hB
  have HR0 : Hid (Rs w a m A L C R) := hr
  rw [← hJ]
  clear hJ hs hr
  go_enter Try.func16, Try.ntmps16
  go_wp2
  go_loop [3, 11] (fun s i => ∃ k x : Nat, i = .int .i64 (k : Int) ∧ k ≤ m ∧ s = .int .i64 (x : Int) ∧ x = (J k).length) (fun s i => m - (intOf i).toNat)
  case atStart => exact ⟨0, 0, rfl, by omega, rfl, by rw [HJ0.out]; rfl⟩
  case round =>
    obtain ⟨k, x, rfl, hk, rfl, hx⟩ := hrel
    have HX : Hid (x = (J k).length) := hx
    have hx1 : x ≤ 70368744177664 := by rw [hx]; exact HL.out k hk
    clear hx
    by_cases hlt : k < m
    · rcases HR0.out.2 with h0 | ⟨b, off, rfl, hb, hc⟩
      · omega
      have hck := hc k hlt
      have hLk := (HR0.out.1 k hlt).2.1.1
      have HXX : Hid (x + L k = (J (k + 1)).length) := by show x + L k = _; rw [HS.out k, List.length_append, ← HX.out, hLk]
      have hx2 : x + L k ≤ 70368744177664 := by rw [HXX.out]; exact HL.out (k + 1) hlt
      obtain ⟨Lk, hLk⟩ : ∃ y, L k = y := ⟨_, rfl⟩
      obtain ⟨Ak, hAk⟩ : ∃ y, A k = y := ⟨_, rfl⟩
      obtain ⟨Ck, hCk⟩ : ∃ y, C k = y := ⟨_, rfl⟩
      rw [hLk] at HXX hx2
      rw [hLk, hAk, hCk] at hck
      clear hLk hAk hCk hc
      go_wp2
      refine ⟨⟨k + 1, x + Lk, by go_num, by omega, by go_num, HXX.out⟩, ?_⟩
      simp [intOf]; omega
    · obtain rfl : k = m := by omega
      go_wp2_with fail
      refine (growNil_any x hx1 w).mono ?_
      rintro e w1 ⟨v1, rfl, ho1, hb1⟩
      go_wp2
      go_loopw [6, 27] (fun u i wr => ∃ j : Nat, i = .int .i64 (j : Int) ∧ j ≤ k ∧ Own wr w.heap.size u (J j) ∧ Below w.heap.size w wr) (fun _ i _ => k - (intOf i).toNat)
      case atStart => exact ⟨0, rfl, by omega, by rw [HJ0.out]; exact ho1, hb1⟩
      case round =>
        obtain ⟨j, rfl, hj, hoj, hbj⟩ := hrel
        by_cases hlt : j < k
        · obtain ⟨hn1, hbs, hmx, hlc⟩ := (HR.out _ _ hbj (Nat.le_refl _)).1 j hlt
          rcases (HR.out _ _ hbj (Nat.le_refl _)).2 with h0 | ⟨b, off, rfl, hb, hc⟩
          · omega
          have hck := hc j hlt
          have hJl : (J j).length + L j ≤ 70368744177664 := by
            have := HL.out (j + 1) hlt
            rw [HS.out j, List.length_append, hbs.1] at this
            exact this
          have HSj := HS.out j
          have HSj' : Hid (J (j + 1) = J j ++ R j) := HSj
          obtain ⟨Lk, hLk⟩ : ∃ y, L j = y := ⟨_, rfl⟩
          obtain ⟨Ak, hAk⟩ : ∃ y, A j = y := ⟨_, rfl⟩
          obtain ⟨Ck, hCk⟩ : ∃ y, C j = y := ⟨_, rfl⟩
          obtain ⟨Rk, hRk⟩ : ∃ y, R j = y := ⟨_, rfl⟩
          obtain ⟨Jk, hJk⟩ : ∃ y, J j = y := ⟨_, rfl⟩
          rw [hLk, hAk, hRk] at hbs
          rw [hLk, hAk, hCk] at hck
          rw [hLk, hAk, hCk] at hn1
          rw [hJk, hRk] at HSj'
          rw [hJk] at hoj
          rw [hJk, hLk] at hJl
          have hsz := hbj.size
          clear HSj hLk hAk hCk hRk hJk hc hmx hlc
          go_wp2_with (at_builtin; refine wpList_append_bytes _ rfl _ _ rfl w.heap.size Try.underlying22 info_u8 _ Jk rfl hoj Ak Lk Ck Rk rfl hn1 hbs ?d1 hsz ?_)
          case d1 => omega
          intro v2 w2 ho2 hg2
          have hb2 := hbj.trans (Below.of_grown hoj hg2 hsz)
          clear hg2
          go_wp2
          go_roundw
          case rel => exact ⟨j + 1, by go_num, hlt, by rw [HSj'.out]; exact ho2, hb2⟩
          case measure => simp [intOf]; omega
        · obtain rfl : j = k := by omega
          go_wp2
          go_ret
          exact ⟨_, rfl, hoj, hbj⟩
end Go.Proofs.Ytfcckekinlobjaa
