/-
  What code.PutText, code.fold and code.PutInt return.
-/
import Derived.Test.YtaajmhajeecciaaCodePut
import Derived.Laws.BitsAllLaws
namespace Go.Proofs.Ytaajmhajeecciaa
open Go.RowKit
set_option linter.unusedVariables false

set_option maxRecDepth 100000 in
set_option maxHeartbeats 400000 in
theorem putText_any (a : Option Addr) (k cap : Nat) (zs : List Int) (s : ByteArray) (w : World) (hnil : a = none → k = 0 ∧ cap = 0) (hb : Bs w a k zs) (hk : k ≤ 35184372088832) (hs : s.size ≤ 35184372088832) :
    Calls Try.prog 10 #[.slice a k cap, .string s] w fun e w' => ∃ v, e = .returned v ∧ Own w' w.heap.size v (zs ++ (ubytes s.size ++ sb s)) ∧ Below w.heap.size w w' := by
  have hle := ubytes_le s.size
  have hzl := hb.1
  go_enter Try.func10, Try.ntmps10
  go_wp2_with fail
  refine (len_any s.size (by omega) _).mono ?_
  rintro e w' ⟨rfl, rfl⟩
  go_wp2_with fail
  rw [show (((ubytes s.size).length : Int) + (s.size : Int)) = (((ubytes s.size).length + s.size : Nat) : Int) from by omega]
  refine (copyWithRoom_any a k cap _ zs _ hnil hb (by omega) (by omega)).mono ?_
  rintro e w1 ⟨v1, rfl, ho1, hb1⟩
  have HZ : Hid (zs.length = k) := hzl
  have hzk : zs.length ≤ 35184372088832 := by omega
  have hs1 := hb1.size
  clear hzl hb
  go_wp2_with fail
  refine (appendUint_any _ v1 zs s.size (by omega) w1 ho1 hs1 (by omega)).mono ?_
  rintro e w2 ⟨v2, rfl, ho2, hb2⟩
  have hs2 := hb2.size
  go_wp2_with (at_builtin; refine wpList_append_str _ rfl _ _ rfl _ Try.underlying22 Try.underlying9 info_u8 _ _ rfl ho2 s rfl ?d1 ?d2 ?_)
  case d1 => simp only [List.length_append]; omega
  case d2 => omega
  intro v3 w3 ho3 hg3
  have hb3 := hb1.trans (hb2.trans (Below.of_grown ho2 hg3 (by omega)))
  try rw [List.append_assoc] at ho3
  clear hg3 ho1 ho2
  go_wp2
  go_ret
  exact ⟨_, rfl, ho3, hb3⟩

theorem xor_ones (x : Nat) (h : x < 18446744073709551616) : x ^^^ 18446744073709551615 = 18446744073709551615 - x := by
  have e : (~~~ (BitVec.ofNat 64 x)).toNat = 2 ^ 64 - 1 - (BitVec.ofNat 64 x).toNat := BitVec.toNat_not
  have e2 : ~~~ (BitVec.ofNat 64 x) = BitVec.ofNat 64 x ^^^ BitVec.allOnes 64 := by rw [BitVec.xor_allOnes]
  rw [e2, BitVec.toNat_xor, BitVec.toNat_ofNat, BitVec.toNat_allOnes, Nat.mod_eq_of_lt (by omega)] at e
  exact e

theorem fold_eq (n : Int) (h1 : -9223372036854775808 ≤ n) (h2 : n < 9223372036854775808) :
    bits .xor .u64 (IntKind.u64.wrap (IntKind.u64.wrap n * 2)) (IntKind.u64.wrap (n / 9223372036854775808)) = (zz n : Int) := by
  simp only [IntKind.wrap_u64]
  unfold zz
  split
  · rename_i h
    have e1 : n / 9223372036854775808 = 0 := by omega
    have e2 : n % 18446744073709551616 * 2 % 18446744073709551616 = (((2 * n).toNat : Nat) : Int) := by omega
    rw [e1, e2]
    have := u64_xor_nat (2 * n).toNat 0 (by omega) (by omega)
    simpa using this
  · rename_i h
    have e1 : n / 9223372036854775808 = -1 := by omega
    have e2 : n % 18446744073709551616 * 2 % 18446744073709551616 = (((2 * n + 18446744073709551616).toNat : Nat) : Int) := by omega
    rw [e1, e2]
    have := u64_xor_nat (2 * n + 18446744073709551616).toNat 18446744073709551615 (by omega) (by omega)
    rw [xor_ones _ (by omega)] at this
    have e3 : (-1 : Int) % 18446744073709551616 = ((18446744073709551615 : Nat) : Int) := by decide
    rw [e3, this]
    omega

set_option maxRecDepth 100000 in
set_option maxHeartbeats 400000 in
theorem fold_any (n : Int) (h1 : -9223372036854775808 ≤ n) (h2 : n < 9223372036854775808) (w : World) :
    Calls Try.prog 21 #[.int .i64 n] w fun e w' => e = .returned (.int .u64 (zz n : Int)) ∧ w' = w := by
  have hf : Hid (bits .xor .u64 (IntKind.u64.wrap (IntKind.u64.wrap n * 2)) (IntKind.u64.wrap (n / 9223372036854775808)) = (zz n : Int)) := fold_eq n h1 h2
  go_enter Try.func21, Try.ntmps21
  go_wp2
  go_ret
  exact ⟨by rw [hf.out]; rfl, rfl⟩

set_option maxRecDepth 100000 in
set_option maxHeartbeats 400000 in
theorem putInt_any (a : Option Addr) (k cap : Nat) (zs : List Int) (n : Int) (h1 : -9223372036854775808 ≤ n) (h2 : n < 9223372036854775808) (w : World) (hnil : a = none → k = 0 ∧ cap = 0) (hb : Bs w a k zs) (hk : k ≤ 70368744177664) :
    Calls Try.prog 9 #[.slice a k cap, .int .i64 n] w fun e w' => ∃ v, e = .returned v ∧ Own w' w.heap.size v (zs ++ ubytes (zz n)) ∧ Below w.heap.size w w' := by
  go_enter Try.func9, Try.ntmps9
  go_wp2_with fail
  refine (fold_any n h1 h2 _).mono ?_
  rintro e w' ⟨rfl, rfl⟩
  go_wp2_with fail
  refine (putUint_any a k cap zs (zz n) (zz_lt n h1 h2) _ hnil hb hk).mono ?_
  rintro e w1 ⟨v1, rfl, ho1, hb1⟩
  go_wp2
  go_ret
  exact ⟨_, rfl, ho1, hb1⟩
end Go.Proofs.Ytaajmhajeecciaa
