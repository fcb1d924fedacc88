/-
  The walk of the law CrcParts, out of the contracts of what it calls.
-/
import Derived.Test.YtoleabndfajcbaaCrcLaw5
namespace Go.Proofs.Ytoleabndfajcbaa
open Go.RowKit
set_option linter.unusedVariables false

/-- The first so many rows, one behind the other. -/
def joined (R : Nat → List Int) : Nat → List Int
  | 0 => []
  | k + 1 => joined R k ++ R k

set_option maxRecDepth 100000 in
set_option maxHeartbeats 1000000 in
theorem crcParts_walk (a : Option Addr) (m cap : Nat) (A : Nat → Option Addr) (L C : Nat → Nat) (R : Nat → List Int) (w : World) (hr : Rs w a m A L C R) (hm : m ≤ maxLen) :
    Calls Try.prog 5 #[.slice a m cap] w fun e w' => e = .returned (.bool true) ∧ Below w.heap.size w w' := by
  unfold maxLen at hm
  by_cases h1 : 20 < m
  · have t1 : decide ((20 : Int) < (m : Int)) = true := by simp; omega
    go_enter Try.func5, Try.ntmps5
    go_wp2_with fail
    refine (crcAlive_any _).mono ?_
    rintro e w1 ⟨rfl, hb1⟩
    go_wp2
    go_ret
    exact ⟨rfl, hb1⟩
  have t1 : decide ((20 : Int) < (m : Int)) = false := by simp; omega
  obtain ⟨r1, r2⟩ := hr
  go_enter Try.func5, Try.ntmps5
  go_wp2_with fail
  refine (crcAlive_any _).mono ?_
  rintro e w1 ⟨rfl, hb1⟩
  go_wp2
  go_loopw [3, 4, 5] (fun s v i wr => ∃ (k : Nat) (J : List Int), i = .int .i64 (k : Int) ∧ k ≤ m ∧ s = .int .u32 ((crcOf J : Nat) : Int) ∧ J = joined R k ∧ J.length ≤ 200 * k ∧ Own wr w.heap.size v J ∧ Below w.heap.size w wr) (fun _ _ i _ => m - (intOf i).toNat)
  case atStart => exact ⟨0, [], rfl, by omega, by rw [crcOf_nil]; rfl, rfl, by simp, Own.nil _ _, hb1⟩
  case round =>
    obtain ⟨k, J, rfl, hk, rfl, hJ, hJl, ho, hbr⟩ := hrel
    have HJ : Hid (J = joined R k) := hJ
    clear hJ hb1
    have hJ32 : crcOf J < 2 ^ 32 := crcOf_lt ho.2
    obtain ⟨a4, c4, rfl, hc4, hn4, bs4⟩ := ho.slice
    by_cases hlt : k < m
    · rcases r2 with r2 | ⟨b, off, rfl, hblk, hcell⟩
      · omega
      obtain ⟨x1, x2, x3, x4⟩ := r1 k hlt
      have bsR := x2.below hbr (Nat.le_refl _)
      have hc := hcell k hlt
      rw [← hbr.cell (by show b < w.heap.size; exact hblk)] at hc
      obtain ⟨Ak, hAk⟩ : ∃ q, q = A k := ⟨_, rfl⟩
      obtain ⟨Lk, hLk⟩ : ∃ q, q = L k := ⟨_, rfl⟩
      obtain ⟨Ck, hCk⟩ : ∃ q, q = C k := ⟨_, rfl⟩
      rw [← hAk, ← hLk, ← hCk] at hc
      rw [← hAk, ← hLk] at bsR
      rw [← hAk, ← hLk, ← hCk] at x1
      rw [← hLk] at x3
      unfold maxLen at x3
      clear hAk hLk hCk hcell x2 x4 r1
      by_cases hlong : 200 < Lk
      · have t2 : decide ((200 : Int) < (Lk : Int)) = true := by simp; omega
        go_wp2
        go_ret
        exact ⟨rfl, hbr⟩
      · have t2 : decide ((200 : Int) < (Lk : Int)) = false := by simp; omega
        obtain ⟨N, hN⟩ : ∃ N, N = crcOf J := ⟨_, rfl⟩
        rw [← hN] at hJ32
        have HN : Hid (N = crcOf J) := hN
        rw [← hN]
        clear hN
        go_wp2_with fail
        refine (more_any N hJ32 Ak Lk Ck (R k) wr bsR (by omega)).mono ?_
        rintro e w3 ⟨rfl, rfl⟩
        have eN : cmore N (R k) = crcOf (J ++ R k) := by rw [HN.out]; exact cmore_append 0 J (R k)
        rw [eN]
        obtain ⟨N', hN'⟩ : ∃ N', N' = crcOf (J ++ R k) := ⟨_, rfl⟩
        rw [← hN']
        have HN' : Hid (N' = crcOf (J ++ R k)) := hN'
        clear hN' eN
        go_wp2_with (at_builtin; refine wpList_append_bytes _ rfl _ _ rfl w.heap.size Try.underlying22 info_byte _ J rfl ho Ak Lk Ck (R k) rfl x1 bsR ?d1 hbr.size ?_)
        case d1 => omega
        intro v5 w5 ho5 hg5
        have hb5 : Below w.heap.size w w5 := hbr.trans (Below.of_grown ho hg5 hbr.size)
        have hlen : (J ++ R k).length ≤ 200 * (k + 1) := by rw [List.length_append, bsR.1]; omega
        clear hg5 ho hbr bsR hc bs4
        go_wp2
        go_roundw
        case rel => exact ⟨k + 1, J ++ R k, by go_num, by omega, by rw [HN'.out], by rw [HJ.out]; rfl, hlen, ho5, hb5⟩
        case measure => simp [intOf]; omega
    · obtain ⟨N, hN⟩ : ∃ N, N = crcOf J := ⟨_, rfl⟩
      have HN : Hid (N = crcOf J) := hN
      rw [← hN] at hJ32 ⊢
      clear hN
      have hbr' := hbr
      go_wp2_with fail
      refine (of_any a4 J.length c4 J wr bs4 (by omega)).mono ?_
      rintro e w3 ⟨rfl, rfl⟩
      rw [← HN.out]
      go_wp2_with fail
      refine (of_any none 0 0 [] _ (Bs.empty _ _) (by omega)).mono ?_
      rintro e w3 ⟨rfl, rfl⟩
      rw [crcOf_nil]
      go_wp2_with fail
      refine (more_any N hJ32 none 0 0 [] _ (Bs.empty _ _) (by omega)).mono ?_
      rintro e w3 ⟨rfl, rfl⟩
      rw [cmore_nil]
      go_wp2
      go_ret
      exact ⟨rfl, hbr'⟩
end Go.Proofs.Ytoleabndfajcbaa
