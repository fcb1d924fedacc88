/-
  slices.Grow (of no slice) and slices.Concat, at []int and at []api.T (made by gen-concat.py).
-/
import Derived.Test.YtffecopfikbbbaaTmClone
import Derived.Lib.AppendZeros
namespace Go.Proofs.Ytffecopfikbbbaa
open Go.RowKit
set_option linter.unusedVariables false

/-- The first k rows, one behind the other; how many elements. -/
def joinV (R : Nat → List Value) : Nat → List Value
  | 0 => []
  | k + 1 => joinV R k ++ R k
def lenJ (L : Nat → Nat) : Nat → Nat
  | 0 => 0
  | k + 1 => lenJ L k + L k
theorem lenJ_le (L : Nat → Nat) {k m : Nat} (h : k ≤ m) : lenJ L k ≤ lenJ L m := by
  induction h with
  | refl => exact Nat.le_refl _
  | step h ih => rw [lenJ]; omega

/-- A slice of slices, its rows read as cells. -/
def Rw (size : Nat) (w : World) (a : Option Addr) (m : Nat) (A : Nat → Option Addr) (L C : Nat → Nat) (R : Nat → List Value) : Prop :=
  (∀ r, r < m → (A r = none → L r = 0 ∧ C r = 0) ∧ Cs w (A r) (R r) ∧ (R r).length = L r * size ∧ (∀ u ∈ R r, u.oneCell' = true)) ∧
  (m = 0 ∨ ∃ b off, a = some ⟨b, off, none⟩ ∧ b < w.heap.size ∧ ∀ r, r < m → w.cell? ⟨b, off + r, none⟩ = some (.slice (A r) (L r) (C r)))

theorem Rw.below {B size : Nat} {w w' : World} {a : Option Addr} {m : Nat} {A : Nat → Option Addr} {L C : Nat → Nat} {R : Nat → List Value} (h : Rw size w a m A L C R) (hb : Below B w w') (hB : w.heap.size ≤ B) : Rw size w' a m A L C R := by
  refine ⟨fun r hr => ⟨(h.1 r hr).1, (h.1 r hr).2.1.below hb hB, (h.1 r hr).2.2⟩, ?_⟩
  rcases h.2 with h0 | ⟨b, off, rfl, hlt, hc⟩
  · exact .inl h0
  · exact .inr ⟨b, off, rfl, Nat.lt_of_lt_of_le hlt hb.size, fun r hr => by rw [hb.cell (by show b < B; omega)]; exact hc r hr⟩

theorem info_int : (Try.prog.info? 3).map (fun i => (i.zero, i.size, i.bytes)) = some (some (.int .i64 0), 1, 8) := by kernel_rfl

set_option maxRecDepth 100000 in
set_option maxHeartbeats 400000 in
theorem growI_any (n : Nat) (hn : n ≤ 4398046511104) (w : World) :
    Calls Try.prog 48 #[.slice none 0 0, .int .i64 (n : Int)] w fun e w' => ∃ v, e = .returned v ∧ w'.ownsRow w.heap.size 3 1 v 0 [] ∧ Below w.heap.size w w' := by
  obtain ⟨i, hi1, hi2, hi3, hi4⟩ := info_parts info_int
  rcases Nat.eq_zero_or_pos n with rfl | h0
  · go_enter Try.func48, Try.ntmps48
    go_wp2
    go_ret
    exact ⟨_, rfl, World.ownsRow_nil _ _ _ _, bW _⟩
  · have hr := Lib.run_append_nil_zeros (P := Try.prog) w 33 3 33 3 i (.int .i64 0) .i64 .i64 Try.underlying33 Try.underlying3 hi1 hi2 n h0 (by rw [hi3]; omega) (by omega) (by rw [hi4]; omega)
    go_enter Try.func48, Try.ntmps48
    go_wp2_with (at_builtin; refine Lib.wpList_append_run _ rfl _ _ _ _ rfl _ _ rfl rfl _ _ hr ?_)
    go_wp2
    go_ret
    refine ⟨_, rfl, World.ownsRow_made w.drew _ _ (Nat.le_refl _) (grownCap_le_maxLen _ _ _ _ (by unfold maxLen; omega)) ?_, (Below.refl _ _).drew.alloc (Nat.le_refl _) _⟩
    have := grownCap_ge w n 0 3
    simp [size_zeroCells]
    try omega

set_option maxRecDepth 100000 in
set_option maxHeartbeats 800000 in
theorem concatI_any (a : Option Addr) (m c : Nat) (A : Nat → Option Addr) (L C : Nat → Nat) (R : Nat → List Value) (w : World) (hr : Rw 1 w a m A L C R) (hm : m ≤ 1000) (hs : lenJ L m ≤ 1099511627776) :
    Calls Try.prog 46 #[.slice a m c] w fun e w' => ∃ v, e = .returned v ∧ w'.ownsRow w.heap.size 3 1 v (lenJ L m) (joinV R m) ∧ Below w.heap.size w w' := by
  obtain ⟨J, hJ⟩ : ∃ J : Nat → List Value, J = joinV R := ⟨_, rfl⟩
  obtain ⟨N, hN⟩ : ∃ N : Nat → Nat, N = lenJ L := ⟨_, rfl⟩
  have HS : Hid (∀ k, J (k + 1) = J k ++ R k) := fun k => by rw [hJ]; rfl
  have HSN : Hid (∀ k, N (k + 1) = N k + L k) := fun k => by rw [hN]; rfl
  have HJ0 : Hid (J 0 = [] ∧ N 0 = 0) := by rw [hJ, hN]; exact ⟨rfl, rfl⟩
  have HL : Hid (∀ k, k ≤ m → N k ≤ 1099511627776) := fun k hk => by rw [hN]; exact Nat.le_trans (lenJ_le L hk) hs
  have HR : Hid (∀ B w', Below B w w' → w.heap.size ≤ B → Rw 1 w' a m A L C R) := fun B w' hb hB => hr.below hb hB
  have HR0 : Hid (Rw 1 w a m A L C R) := hr
  rw [← hJ, ← hN]
  clear hJ hs hr hN
  go_enter Try.func46, Try.ntmps46
  go_wp2
  go_loop [3, 11] (fun s i => ∃ k x : Nat, i = .int .i64 (k : Int) ∧ k ≤ m ∧ s = .int .i64 (x : Int) ∧ x = N k) (fun s i => m - (intOf i).toNat)
  case atStart => exact ⟨0, 0, rfl, by omega, rfl, by rw [HJ0.out.2]⟩
  case round =>
    obtain ⟨k, x, rfl, hk, rfl, hx⟩ := hrel
    have HX : Hid (x = N k) := hx
    have hx1 : x ≤ 1099511627776 := by rw [hx]; exact HL.out k hk
    clear hx
    by_cases hlt : k < m
    · rcases HR0.out.2 with h0 | ⟨b, off, rfl, hb, hc⟩
      · omega
      have hck := hc k hlt
      have HXX : Hid (x + L k = N (k + 1)) := by show x + L k = _; rw [HSN.out k, ← HX.out]
      have hx2 : x + L k ≤ 1099511627776 := by rw [HXX.out]; exact HL.out (k + 1) hlt
      obtain ⟨Lk, hLk⟩ : ∃ y, L k = y := ⟨_, rfl⟩
      obtain ⟨Ak, hAk⟩ : ∃ y, A k = y := ⟨_, rfl⟩
      obtain ⟨Ck, hCk⟩ : ∃ y, C k = y := ⟨_, rfl⟩
      rw [hLk] at HXX hx2
      rw [hLk, hAk, hCk] at hck
      clear hLk hAk hCk hc
      go_wp2
      refine ⟨⟨k + 1, x + Lk, by go_num, by omega, by go_num, HXX.out⟩, ?_⟩
      simp [intOf]; omega
    · obtain rfl : k = m := by omega
      go_wp2_with fail
      refine (growI_any x (by omega) w).mono ?_
      rintro e w1 ⟨v1, rfl, ho1, hb1⟩
      go_wp2
      go_loopw [6, 27] (fun u i wr => ∃ j : Nat, i = .int .i64 (j : Int) ∧ j ≤ k ∧ wr.ownsRow w.heap.size 3 1 u (N j) (J j) ∧ Below w.heap.size w wr) (fun _ i _ => k - (intOf i).toNat)
      case atStart => exact ⟨0, rfl, by omega, by rw [HJ0.out.1, HJ0.out.2]; exact ho1, hb1⟩
      case round =>
        obtain ⟨j, rfl, hj, hoj, hbj⟩ := hrel
        by_cases hlt : j < k
        · obtain ⟨hn1, hbs, hRl, hone⟩ := (HR.out _ _ hbj (Nat.le_refl _)).1 j hlt
          rcases (HR.out _ _ hbj (Nat.le_refl _)).2 with h0 | ⟨b, off, rfl, hb, hc⟩
          · omega
          have hck := hc j hlt
          have hJl : N j + L j ≤ 1099511627776 := by
            have := HL.out (j + 1) hlt
            rw [HSN.out j] at this
            exact this
          have HSj' : Hid (J (j + 1) = J j ++ R j ∧ N (j + 1) = N j + L j) := ⟨HS.out j, HSN.out j⟩
          obtain ⟨Lk, hLk⟩ : ∃ y, L j = y := ⟨_, rfl⟩
          obtain ⟨Ak, hAk⟩ : ∃ y, A j = y := ⟨_, rfl⟩
          obtain ⟨Ck, hCk⟩ : ∃ y, C j = y := ⟨_, rfl⟩
          obtain ⟨Rk, hRk⟩ : ∃ y, R j = y := ⟨_, rfl⟩
          obtain ⟨Jk, hJk⟩ : ∃ y, J j = y := ⟨_, rfl⟩
          obtain ⟨Nk, hNk⟩ : ∃ y, N j = y := ⟨_, rfl⟩
          rw [hAk, hRk] at hbs
          rw [hRk] at hone
          rw [hLk, hRk] at hRl
          rw [hLk, hAk, hCk] at hck
          rw [hLk, hAk, hCk] at hn1
          rw [hJk, hRk, hNk, hLk] at HSj'
          rw [hJk, hNk] at hoj
          rw [hNk, hLk] at hJl
          have hsz := hbj.size
          have HRl := hid hRl
          clear hLk hAk hCk hRk hJk hNk hc hRl
          go_wp2_with (at_builtin; refine wpList_append_cells _ rfl _ _ 33 rfl w.heap.size 3 (.int .i64 0) 1 8 Try.underlying33 info_int rfl (by decide) _ Nk Jk rfl hoj Ak Lk Ck Rk rfl hn1 hbs HRl.out hone ?d1 ?d2 hsz ?_)
          case d1 => unfold maxLen; omega
          case d2 => omega
          intro v2 w2 ho2 hg2
          have hb2 := hbj.trans (below_grown hoj hg2 hsz)
          clear hg2
          go_wp2
          go_roundw
          case rel => exact ⟨j + 1, by go_num, hlt, by rw [HSj'.out.1, HSj'.out.2]; exact ho2, hb2⟩
          case measure => simp [intOf]; omega
        · obtain rfl : j = k := by omega
          go_wp2
          go_ret
          exact ⟨_, rfl, hoj, hbj⟩

set_option maxRecDepth 100000 in
set_option maxHeartbeats 400000 in
theorem growT_any (n : Nat) (hn : n ≤ 4398046511104) (w : World) :
    Calls Try.prog 47 #[.slice none 0 0, .int .i64 (n : Int)] w fun e w' => ∃ v, e = .returned v ∧ w'.ownsRow w.heap.size 29 2 v 0 [] ∧ Below w.heap.size w w' := by
  obtain ⟨i, hi1, hi2, hi3, hi4⟩ := info_parts info_tm
  rcases Nat.eq_zero_or_pos n with rfl | h0
  · go_enter Try.func47, Try.ntmps47
    go_wp2
    go_ret
    exact ⟨_, rfl, World.ownsRow_nil _ _ _ _, bW _⟩
  · have hr := Lib.run_append_nil_zeros (P := Try.prog) w 27 3 27 29 i (.agg #[.int .i64 0, .slice none 0 0]) .i64 .i64 Try.underlying27 Try.underlying3 hi1 hi2 n h0 (by rw [hi3]; omega) (by omega) (by rw [hi4]; omega)
    go_enter Try.func47, Try.ntmps47
    go_wp2_with (at_builtin; refine Lib.wpList_append_run _ rfl _ _ _ _ rfl _ _ rfl rfl _ _ hr ?_)
    go_wp2
    go_ret
    refine ⟨_, rfl, World.ownsRow_made w.drew _ _ (Nat.le_refl _) (grownCap_le_maxLen _ _ _ _ (by unfold maxLen; omega)) ?_, (Below.refl _ _).drew.alloc (Nat.le_refl _) _⟩
    have := grownCap_ge w n 0 29
    simp [size_zeroCells]
    try omega

set_option maxRecDepth 100000 in
set_option maxHeartbeats 800000 in
theorem concatT_any (a : Option Addr) (m c : Nat) (A : Nat → Option Addr) (L C : Nat → Nat) (R : Nat → List Value) (w : World) (hr : Rw 2 w a m A L C R) (hm : m ≤ 1000) (hs : lenJ L m ≤ 1099511627776) :
    Calls Try.prog 42 #[.slice a m c] w fun e w' => ∃ v, e = .returned v ∧ w'.ownsRow w.heap.size 29 2 v (lenJ L m) (joinV R m) ∧ Below w.heap.size w w' := by
  obtain ⟨J, hJ⟩ : ∃ J : Nat → List Value, J = joinV R := ⟨_, rfl⟩
  obtain ⟨N, hN⟩ : ∃ N : Nat → Nat, N = lenJ L := ⟨_, rfl⟩
  have HS : Hid (∀ k, J (k + 1) = J k ++ R k) := fun k => by rw [hJ]; rfl
  have HSN : Hid (∀ k, N (k + 1) = N k + L k) := fun k => by rw [hN]; rfl
  have HJ0 : Hid (J 0 = [] ∧ N 0 = 0) := by rw [hJ, hN]; exact ⟨rfl, rfl⟩
  have HL : Hid (∀ k, k ≤ m → N k ≤ 1099511627776) := fun k hk => by rw [hN]; exact Nat.le_trans (lenJ_le L hk) hs
  have HR : Hid (∀ B w', Below B w w' → w.heap.size ≤ B → Rw 2 w' a m A L C R) := fun B w' hb hB => hr.below hb hB
  have HR0 : Hid (Rw 2 w a m A L C R) := hr
  rw [← hJ, ← hN]
  clear hJ hs hr hN
  go_enter Try.func42, Try.ntmps42
  go_wp2
  go_loop [3, 11] (fun s i => ∃ k x : Nat, i = .int .i64 (k : Int) ∧ k ≤ m ∧ s = .int .i64 (x : Int) ∧ x = N k) (fun s i => m - (intOf i).toNat)
  case atStart => exact ⟨0, 0, rfl, by omega, rfl, by rw [HJ0.out.2]⟩
  case round =>
    obtain ⟨k, x, rfl, hk, rfl, hx⟩ := hrel
    have HX : Hid (x = N k) := hx
    have hx1 : x ≤ 1099511627776 := by rw [hx]; exact HL.out k hk
    clear hx
    by_cases hlt : k < m
    · rcases HR0.out.2 with h0 | ⟨b, off, rfl, hb, hc⟩
      · omega
      have hck := hc k hlt
      have HXX : Hid (x + L k = N (k + 1)) := by show x + L k = _; rw [HSN.out k, ← HX.out]
      have hx2 : x + L k ≤ 1099511627776 := by rw [HXX.out]; exact HL.out (k + 1) hlt
      obtain ⟨Lk, hLk⟩ : ∃ y, L k = y := ⟨_, rfl⟩
      obtain ⟨Ak, hAk⟩ : ∃ y, A k = y := ⟨_, rfl⟩
      obtain ⟨Ck, hCk⟩ : ∃ y, C k = y := ⟨_, rfl⟩
      rw [hLk] at HXX hx2
      rw [hLk, hAk, hCk] at hck
      clear hLk hAk hCk hc
      go_wp2
      refine ⟨⟨k + 1, x + Lk, by go_num, by omega, by go_num, HXX.out⟩, ?_⟩
      simp [intOf]; omega
    · obtain rfl : k = m := by omega
      go_wp2_with fail
      refine (growT_any x (by omega) w).mono ?_
      rintro e w1 ⟨v1, rfl, ho1, hb1⟩
      go_wp2
      go_loopw [6, 27] (fun u i wr => ∃ j : Nat, i = .int .i64 (j : Int) ∧ j ≤ k ∧ wr.ownsRow w.heap.size 29 2 u (N j) (J j) ∧ Below w.heap.size w wr) (fun _ i _ => k - (intOf i).toNat)
      case atStart => exact ⟨0, rfl, by omega, by rw [HJ0.out.1, HJ0.out.2]; exact ho1, hb1⟩
      case round =>
        obtain ⟨j, rfl, hj, hoj, hbj⟩ := hrel
        by_cases hlt : j < k
        · obtain ⟨hn1, hbs, hRl, hone⟩ := (HR.out _ _ hbj (Nat.le_refl _)).1 j hlt
          rcases (HR.out _ _ hbj (Nat.le_refl _)).2 with h0 | ⟨b, off, rfl, hb, hc⟩
          · omega
          have hck := hc j hlt
          have hJl : N j + L j ≤ 1099511627776 := by
            have := HL.out (j + 1) hlt
            rw [HSN.out j] at this
            exact this
          have HSj' : Hid (J (j + 1) = J j ++ R j ∧ N (j + 1) = N j + L j) := ⟨HS.out j, HSN.out j⟩
          obtain ⟨Lk, hLk⟩ : ∃ y, L j = y := ⟨_, rfl⟩
          obtain ⟨Ak, hAk⟩ : ∃ y, A j = y := ⟨_, rfl⟩
          obtain ⟨Ck, hCk⟩ : ∃ y, C j = y := ⟨_, rfl⟩
          obtain ⟨Rk, hRk⟩ : ∃ y, R j = y := ⟨_, rfl⟩
          obtain ⟨Jk, hJk⟩ : ∃ y, J j = y := ⟨_, rfl⟩
          obtain ⟨Nk, hNk⟩ : ∃ y, N j = y := ⟨_, rfl⟩
          rw [hAk, hRk] at hbs
          rw [hRk] at hone
          rw [hLk, hRk] at hRl
          rw [hLk, hAk, hCk] at hck
          rw [hLk, hAk, hCk] at hn1
          rw [hJk, hRk, hNk, hLk] at HSj'
          rw [hJk, hNk] at hoj
          rw [hNk, hLk] at hJl
          have hsz := hbj.size
          have HRl := hid hRl
          clear hLk hAk hCk hRk hJk hNk hc hRl
          go_wp2_with (at_builtin; refine wpList_append_cells _ rfl _ _ 27 rfl w.heap.size 29 (.agg #[.int .i64 0, .slice none 0 0]) 2 32 Try.underlying27 info_tm rfl (by decide) _ Nk Jk rfl hoj Ak Lk Ck Rk rfl hn1 hbs HRl.out hone ?d1 ?d2 hsz ?_)
          case d1 => unfold maxLen; omega
          case d2 => omega
          intro v2 w2 ho2 hg2
          have hb2 := hbj.trans (below_grown hoj hg2 hsz)
          clear hg2
          go_wp2
          go_roundw
          case rel => exact ⟨j + 1, by go_num, hlt, by rw [HSj'.out.1, HSj'.out.2]; exact ho2, hb2⟩
          case measure => simp [intOf]; omega
        · obtain rfl : j = k := by omega
          go_wp2
          go_ret
          exact ⟨_, rfl, hoj, hbj⟩
end Go.Proofs.Ytffecopfikbbbaa
