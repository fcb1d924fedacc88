/-
  What crc.Get returns: End, Sum, or what stands behind the first four bytes.
-/
import Derived.Test.YtfcckekinlobjaaCrcPut
namespace Go.Proofs.Ytfcckekinlobjaa
open Go.RowKit
set_option linter.unusedVariables false

set_option maxRecDepth 100000 in
set_option maxHeartbeats 400000 in
theorem get_end (a : Option Addr) (m ca : Nat) (w : World) (h : m < 4) :
    Calls Try.prog 23 #[.slice a m ca] w fun e w' => e = .returned (.tuple #[.slice none 0 0, .int .u8 10]) ∧ w' = w := by
  go_enter Try.func23, Try.ntmps23
  go_wp2
  go_ret2
  exact ⟨rfl, rfl⟩

set_option maxRecDepth 100000 in
set_option maxHeartbeats 1000000 in
theorem get_sum (a : Option Addr) (m ca : Nat) (zs : List Int) (w : World) (hb : Bs w a m zs) (h4 : 4 ≤ m) (hca : m ≤ ca) (hm : m ≤ 70368744177664) (hne : bword zs ≠ crcOf (zs.drop 4)) :
    Calls Try.prog 23 #[.slice a m ca] w fun e w' => e = .returned (.tuple #[.slice none 0 0, .int .u8 8]) ∧ ∃ nq, w' = w.drewN nq := by
  obtain ⟨W, hW⟩ : ∃ W, W = bword zs := ⟨_, rfl⟩
  obtain ⟨C, hC⟩ : ∃ C, C = crcOf (zs.drop 4) := ⟨_, rfl⟩
  have hq : ((W : Int) != (C : Int)) = true := by rw [hW, hC]; simp; omega
  have hlt : (4 : Int) ≤ (m : Int) := by omega
  rcases hb.2.2 with h0 | ⟨b, off, rfl, hblk, _⟩
  · omega
  by_cases hc4 : ca = 4
  · subst hc4
    obtain rfl : m = 4 := by omega
    have hcut : Bs w (some ⟨b, off, none⟩) 0 (zs.drop 4) := by
      rw [List.drop_eq_nil_of_le (by rw [hb.1]; omega)]; exact Bs.empty _ _
    have HW : Hid (∀ k, Calls Try.prog 33 #[.slice (some ⟨b, off, none⟩) 4 4] (w.drewN k) fun e w' => e = .returned (.int .u32 (W : Int)) ∧ w' = w.drewN k) := by
      intro k; rw [hW]; exact word_any (some ⟨b, off, none⟩) 4 4 zs _ hb h4 hca
    have HC : Hid (∀ k c, Calls Try.prog 34 #[.slice (some ⟨b, off, none⟩) 0 c] (w.drewN k) fun e w' => e = .returned (.int .u32 (C : Int)) ∧ w' = w.drewN k) := by
      intro k c; rw [hC]; exact of_any _ _ c _ _ hcut (by omega)
    clear hW hC hne hcut hb
    go_enter Try.func23, Try.ntmps23
    go_wp2
    go_quiet (first | (go_at_call 33; exact Calls.quiet_of_same (HW.out _)) | (go_at_call 34; exact Calls.quiet_of_same (HC.out _ _)))
    go_wp2
    go_ret2
    exact ⟨rfl, _, rfl⟩
  · have hcut : Bs w (some ⟨b, off + 4, none⟩) (m - 4) (zs.drop 4) := hb.drop h4
    have HW : Hid (∀ k, Calls Try.prog 33 #[.slice (some ⟨b, off, none⟩) m ca] (w.drewN k) fun e w' => e = .returned (.int .u32 (W : Int)) ∧ w' = w.drewN k) := by
      intro k; rw [hW]; exact word_any (some ⟨b, off, none⟩) m ca zs _ hb h4 hca
    have HC : Hid (∀ k c, Calls Try.prog 34 #[.slice (some ⟨b, off + 4, none⟩) (m - 4) c] (w.drewN k) fun e w' => e = .returned (.int .u32 (C : Int)) ∧ w' = w.drewN k) := by
      intro k c; rw [hC]; exact of_any _ _ c _ _ hcut (by omega)
    clear hW hC hne hcut hb
    go_enter Try.func23, Try.ntmps23
    go_wp2
    go_quiet (first | (go_at_call 33; exact Calls.quiet_of_same (HW.out _)) | (go_at_call 34; exact Calls.quiet_of_same (HC.out _ _)))
    go_wp2
    go_ret2
    exact ⟨rfl, _, rfl⟩

set_option maxRecDepth 100000 in
set_option maxHeartbeats 1000000 in
theorem get_ok (a : Option Addr) (m ca : Nat) (zs : List Int) (w : World) (hb : Bs w a m zs) (h4 : 4 ≤ m) (hca : m ≤ ca) (hm : m ≤ 70368744177664) (heq : bword zs = crcOf (zs.drop 4)) :
    Calls Try.prog 23 #[.slice a m ca] w fun e w' => ∃ v, e = .returned (.tuple #[v, .int .u8 0]) ∧ Own w' w.heap.size v (zs.drop 4) ∧ Below w.heap.size w w' := by
  obtain ⟨W, hW⟩ : ∃ W, W = bword zs := ⟨_, rfl⟩
  have hq : ((W : Int) != (W : Int)) = false := by simp
  have hlt : (4 : Int) ≤ (m : Int) := by omega
  rcases hb.2.2 with h0 | ⟨b, off, rfl, hblk, _⟩
  · omega
  by_cases hc4 : ca = 4
  · subst hc4
    obtain rfl : m = 4 := by omega
    have hcut : Bs w (some ⟨b, off, none⟩) 0 (zs.drop 4) := by
      rw [List.drop_eq_nil_of_le (by rw [hb.1]; omega)]; exact Bs.empty _ _
    have HW : Hid (∀ k, Calls Try.prog 33 #[.slice (some ⟨b, off, none⟩) 4 4] (w.drewN k) fun e w' => e = .returned (.int .u32 (W : Int)) ∧ w' = w.drewN k) := by
      intro k; rw [hW]; exact word_any (some ⟨b, off, none⟩) 4 4 zs _ hb h4 hca
    have HC : Hid (∀ k c, Calls Try.prog 34 #[.slice (some ⟨b, off, none⟩) 0 c] (w.drewN k) fun e w' => e = .returned (.int .u32 (W : Int)) ∧ w' = w.drewN k) := by
      intro k c; rw [hW, heq]; exact of_any _ _ c _ _ hcut (by omega)
    obtain ⟨D, hD⟩ : ∃ D, D = zs.drop 4 := ⟨_, rfl⟩
    rw [← hD] at hcut ⊢
    have HK : Hid (∀ k c, Calls Try.prog 35 #[.slice (some ⟨b, off, none⟩) 0 c] (w.drewN k) fun e w' => ∃ v, e = .returned v ∧ Own w' w.heap.size v D ∧ Below w.heap.size (w.drewN k) w') := by
      intro k c
      exact clone_any _ _ c _ _ (fun h => by cases h) (hcut.drewN k) (by omega)
    have HB : Hid (∀ k, Below w.heap.size w (w.drewN k)) := fun k => below_drewN (Below.refl _ _) k
    clear hW heq hcut hb hD
    go_enter Try.func23, Try.ntmps23
    go_wp2
    go_quiet (first | (go_at_call 33; exact Calls.quiet_of_same (HW.out _)) | (go_at_call 34; exact Calls.quiet_of_same (HC.out _ _)))
    go_wp2_with fail
    refine (HK.out _ _).mono ?_
    rintro e w1 ⟨v, rfl, ho, hbel⟩
    go_wp2
    go_ret2
    exact ⟨_, rfl, ho, (HB.out _).trans hbel⟩
  · have hcut : Bs w (some ⟨b, off + 4, none⟩) (m - 4) (zs.drop 4) := hb.drop h4
    have HW : Hid (∀ k, Calls Try.prog 33 #[.slice (some ⟨b, off, none⟩) m ca] (w.drewN k) fun e w' => e = .returned (.int .u32 (W : Int)) ∧ w' = w.drewN k) := by
      intro k; rw [hW]; exact word_any (some ⟨b, off, none⟩) m ca zs _ hb h4 hca
    have HC : Hid (∀ k c, Calls Try.prog 34 #[.slice (some ⟨b, off + 4, none⟩) (m - 4) c] (w.drewN k) fun e w' => e = .returned (.int .u32 (W : Int)) ∧ w' = w.drewN k) := by
      intro k c; rw [hW, heq]; exact of_any _ _ c _ _ hcut (by omega)
    obtain ⟨D, hD⟩ : ∃ D, D = zs.drop 4 := ⟨_, rfl⟩
    rw [← hD] at hcut ⊢
    have HK : Hid (∀ k c, Calls Try.prog 35 #[.slice (some ⟨b, off + 4, none⟩) (m - 4) c] (w.drewN k) fun e w' => ∃ v, e = .returned v ∧ Own w' w.heap.size v D ∧ Below w.heap.size (w.drewN k) w') := by
      intro k c
      exact clone_any _ _ c _ _ (fun h => by cases h) (hcut.drewN k) (by omega)
    have HB : Hid (∀ k, Below w.heap.size w (w.drewN k)) := fun k => below_drewN (Below.refl _ _) k
    clear hW heq hcut hb hD
    go_enter Try.func23, Try.ntmps23
    go_wp2
    go_quiet (first | (go_at_call 33; exact Calls.quiet_of_same (HW.out _)) | (go_at_call 34; exact Calls.quiet_of_same (HC.out _ _)))
    go_wp2_with fail
    refine (HK.out _ _).mono ?_
    rintro e w1 ⟨v, rfl, ho, hbel⟩
    go_wp2
    go_ret2
    exact ⟨_, rfl, ho, (HB.out _).trans hbel⟩
end Go.Proofs.Ytfcckekinlobjaa
