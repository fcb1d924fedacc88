/-
  What code.copyWithRoom, code.appendUint and code.PutUint return: the bytes, behind those that came in, in new memory.
-/
import Derived.Test.YtfcckekinlobjaaCodeLen
import Derived.Test.YtfcckekinlobjaaCodeMem
namespace Go.Proofs.Ytfcckekinlobjaa
open Go.RowKit
set_option linter.unusedVariables false

theorem info_u8 : (Try.prog.info? 5).map (fun i => (i.zero, i.size, i.bytes)) = some (some (.int .u8 0), 1, 1) := by kernel_rfl

theorem or128 (j : Nat) : bits .or .u8 ((j : Int) % 256) 128 = ((128 + j % 128 : Nat) : Int) := by
  have h : ∀ a : Fin 256, bits .or .u8 ((a.val : Nat) : Int) 128 = ((128 + a.val % 128 : Nat) : Int) := by decide +kernel
  have h2 := h ⟨j % 256, by omega⟩
  rw [show ((j : Int) % 256) = ((j % 256 : Nat) : Int) by omega]
  rw [show j % 128 = (j % 256) % 128 by omega]
  exact h2

set_option maxRecDepth 100000 in
set_option maxHeartbeats 400000 in
theorem copyWithRoom_any (a : Option Addr) (n cap room : Nat) (zs : List Int) (w : World) (hnil : a = none → n = 0 ∧ cap = 0) (hb : Bs w a n zs) (hn : n ≤ 70368744177664) (hr : room ≤ 70368744177664) :
    Calls Try.prog 25 #[.slice a n cap, .int .i64 (room : Int)] w fun e w' => ∃ v, e = .returned v ∧ Own w' w.heap.size v zs ∧ Below w.heap.size w w' := by
  obtain ⟨i, hi1, hi2, hi3, hi4⟩ := info_parts info_u8
  go_enter Try.func25, Try.ntmps25
  go_wp2_with (at_make; refine wpList_make_own _ rfl _ _ 22 rfl w.heap.size 5 i (.int .u8 0) 1 Try.underlying22 hi1 hi2 hi3 .i64 .i64 _ (n + room) rfl rfl ?c1 ?c2 ?c3 ?c4 ?_)
  case c1 => omega
  case c2 => rw [hi4]; omega
  case c3 => unfold maxLen; omega
  case c4 => exact Nat.le_refl _
  intro w1 ho1 hg1
  have hown1 : Own w1 w.heap.size (.slice (some ⟨w.heap.size, 0, none⟩) 0 (n + room)) [] := ⟨ho1, by simp⟩
  have hbel1 : Below w.heap.size w w1 := (Below.refl _ _).grown hg1 (Nat.le_refl _) (fun k hk => by cases hk)
  have hb1 := hb.below hbel1 (Nat.le_refl _)
  have hsz := hg1.size
  clear ho1 hg1
  go_wp2_with (at_builtin; refine wpList_append_bytes _ rfl _ _ rfl w.heap.size Try.underlying22 info_u8 _ [] rfl hown1 a n cap zs rfl hnil hb1 ?d1 hsz ?_)
  case d1 => simp; omega
  intro v2 w2 ho2 hg2
  have hbel2 : Below w.heap.size w w2 := hbel1.trans (Below.of_grown hown1 hg2 hsz)
  clear hg2
  go_wp2
  go_ret
  exact ⟨_, rfl, ho2, hbel2⟩

set_option maxRecDepth 100000 in
set_option maxHeartbeats 400000 in
theorem appendUint_any (base : Nat) (v : Value) (xs : List Int) (n : Nat) (hn : n < 2 ^ 64) (w : World) (hown : Own w base v xs) (hbase : base ≤ w.heap.size) (hl : xs.length ≤ 70368744177664) :
    Calls Try.prog 24 #[v, .int .u64 (n : Int)] w fun e w' => ∃ v', e = .returned v' ∧ Own w' base v' (xs ++ ubytes n) ∧ Below base w w' := by
  go_enter Try.func24, Try.ntmps24
  go_wp2
  go_loopw [0, 1] (fun u m wr => ∃ (j : Nat) (ys : List Int), m = .int .u64 (j : Int) ∧ j < 2 ^ 64 ∧ ys ++ ubytes j = ubytes n ∧ Own wr base u (xs ++ ys) ∧ base ≤ wr.heap.size ∧ Below base w wr) (fun _ m _ => (intOf m).toNat)
  case atStart => exact ⟨n, [], rfl, hn, rfl, by simpa using hown, hbase, Below.refl _ _⟩
  case round =>
    obtain ⟨j, ys, rfl, hj, hy, ho, hB, hbel⟩ := hrel
    have hyl : ys.length ≤ 10 := by have := ubytes_le n; rw [← hy, List.length_append] at this; omega
    have HY : Hid (ys ++ ubytes j = ubytes n) := hy
    clear hy hown hbase hn
    by_cases hz : 128 ≤ j
    · go_wp2_with (at_builtin; refine wpList_append_bytes _ rfl _ _ rfl base Try.underlying22 info_u8 _ (xs ++ ys) rfl (ho.alloc _) (some ⟨wr.heap.size, 0, none⟩) 1 1 [bits .or .u8 ((j : Int) % 256) 128] rfl ?a1 (bs_new1 _ _ ?a2) ?a3 ?a4 ?_)
      case a1 => intro h; cases h
      case a2 => rw [or128]; omega
      case a3 => rw [List.length_append]; omega
      case a4 => simp; omega
      intro v2 w2 ho2 hg2
      have hb2 : Below base w w2 := (hbel.alloc hB _).trans (Below.of_grown (ho.alloc _) hg2 (by simp; omega))
      have hsz : base ≤ w2.heap.size := by have := hg2.size; simp at this; omega
      rw [or128] at ho2
      try rw [List.append_assoc] at ho2
      clear hg2 ho hB hbel
      go_wp2
      go_roundw
      case rel => exact ⟨j / 128, ys ++ [((128 + j % 128 : Nat) : Int)], by simp, by omega, by rw [← HY.out, ubytes_step hz hj]; simp, ho2, hsz, hb2⟩
      case measure => simp [intOf]; omega
    · go_wp2_with (at_builtin; refine wpList_append_bytes _ rfl _ _ rfl base Try.underlying22 info_u8 _ (xs ++ ys) rfl (ho.alloc _) (some ⟨wr.heap.size, 0, none⟩) 1 1 [(j : Int)] rfl ?a1 (bs_new1 _ _ ?a2) ?a3 ?a4 ?_)
      case a1 => intro h; cases h
      case a2 => omega
      case a3 => rw [List.length_append]; omega
      case a4 => simp; omega
      intro v2 w2 ho2 hg2
      have hb2 : Below base w w2 := (hbel.alloc hB _).trans (Below.of_grown (ho.alloc _) hg2 (by simp; omega))
      have e1 : xs ++ ys ++ [(j : Int)] = xs ++ ubytes n := by
        rw [← HY.out, ubytes_small (by omega), List.append_assoc]
      first | rw [e1] at ho2 | (rw [List.append_assoc] at e1; rw [e1] at ho2)
      clear hg2 ho hB hbel e1
      go_wp2
      go_ret
      exact ⟨_, rfl, ho2, hb2⟩

set_option maxRecDepth 100000 in
set_option maxHeartbeats 400000 in
theorem putUint_any (a : Option Addr) (k cap : Nat) (zs : List Int) (n : Nat) (hn : n < 2 ^ 64) (w : World) (hnil : a = none → k = 0 ∧ cap = 0) (hb : Bs w a k zs) (hk : k ≤ 70368744177664) :
    Calls Try.prog 15 #[.slice a k cap, .int .u64 (n : Int)] w fun e w' => ∃ v, e = .returned v ∧ Own w' w.heap.size v (zs ++ ubytes n) ∧ Below w.heap.size w w' := by
  have hle := ubytes_le n
  go_enter Try.func15, Try.ntmps15
  go_wp2_with fail
  refine (len_any n hn _).mono ?_
  rintro e w' ⟨rfl, rfl⟩
  go_wp2_with fail
  refine (copyWithRoom_any a k cap _ zs _ hnil hb hk (by omega)).mono ?_
  rintro e w1 ⟨v1, rfl, ho1, hb1⟩
  go_wp2_with fail
  refine (appendUint_any _ v1 zs n hn w1 ho1 hb1.size (by rw [hb.1]; exact hk)).mono ?_
  rintro e w2 ⟨v2, rfl, ho2, hb2⟩
  go_wp2
  go_ret
  exact ⟨_, rfl, ho2, hb1.trans hb2⟩
end Go.Proofs.Ytfcckekinlobjaa
