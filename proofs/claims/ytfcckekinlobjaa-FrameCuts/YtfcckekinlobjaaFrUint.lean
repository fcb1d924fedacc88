/-
  What code.Uint returns at a place of bytes.
-/
import Derived.Test.YtfcckekinlobjaaFrRead
namespace Go.Proofs.Ytfcckekinlobjaa
open Go.RowKit
set_option linter.unusedVariables false

set_option maxRecDepth 100000 in
set_option maxHeartbeats 400000 in
theorem uint_end (a : Option Addr) (k cap : Nat) (zs : List Int) (p : Nat) (w : World) (hb : Bs w a k zs) (hk : k ≤ 70368744177664) (hkc : k ≤ cap) (hp : p ≤ k) (he : lastAt (zs.drop p) = none) :
    Calls Try.prog 22 #[.slice a k cap, .int .i64 (p : Int)] w fun e w' => e = .returned (.tuple #[.int .u64 0, .int .i64 0, .int .u8 10]) ∧ w' = w := by
  have h1 : decide ((p : Int) < 0) = false := by simp
  have h2 : decide ((k : Int) < (p : Int)) = false := by simp; omega
  have hli : lastInt (zs.drop p) = -1 := by rw [lastInt, he]
  rcases Nat.lt_or_ge p cap with hpc | hpc
  · clear he
    go_enter Try.func22, Try.ntmps22
    go_wp2_with fail
    refine (indexFunc_any _ _ _ (zs.drop p) w (hb.drop hp) (by omega)).mono ?_
    rintro e w' ⟨rfl, rfl⟩
    rw [hli]
    go_wp2
    go_ret3
    exact ⟨rfl, rfl⟩
  · have e1 : p = k := by omega
    have e2 : cap = k := by omega
    subst e1 e2
    have hd : zs.drop cap = [] := by rw [List.drop_eq_nil_iff, hb.1]; omega
    rw [hd] at hli
    clear he hd
    go_enter Try.func22, Try.ntmps22
    go_wp2_with fail
    refine (indexFunc_any _ 0 _ [] w (Bs.empty w _) (by omega)).mono ?_
    rintro e w' ⟨rfl, rfl⟩
    rw [hli]
    go_wp2
    go_ret3
    exact ⟨rfl, rfl⟩

theorem lastInt_some {l : List Int} {i : Nat} (h : lastAt l = some i) : lastInt l = (i : Int) := by rw [lastInt, h]

set_option maxRecDepth 100000 in
set_option maxHeartbeats 400000 in
theorem uint_form (a : Option Addr) (k cap : Nat) (zs : List Int) (p i : Nat) (w : World) (hb : Bs w a k zs) (hk : k ≤ 70368744177664) (hkc : k ≤ cap) (hp : p ≤ k) (he : lastAt (zs.drop p) = some i) (hok : okNum ((zs.drop p).take (i + 1)) = false) :
    Calls Try.prog 22 #[.slice a k cap, .int .i64 (p : Int)] w fun e w' => e = .returned (.tuple #[.int .u64 0, .int .i64 0, .int .u8 7]) ∧ w' = w := by
  have h1 : decide ((p : Int) < 0) = false := by simp
  have h2 : decide ((k : Int) < (p : Int)) = false := by simp; omega
  have hli := lastInt_some he
  have hlt := (lastAt_lt he).1
  rw [List.length_drop, hb.1] at hlt
  have hpc : p < cap := by omega
  have HK : Hid (okNum ((zs.drop p).take (i + 1)) = false) := hok
  clear he hok
  go_enter Try.func22, Try.ntmps22
  go_wp2_with fail
  refine (indexFunc_any _ _ _ (zs.drop p) w (hb.drop hp) (by omega)).mono ?_
  rintro e w' ⟨rfl, rfl⟩
  rw [hli]
  have hi0 : decide ((i : Int) < 0) = false := by simp
  clear hli
  go_wp2_with fail
  rw [show p + i + 1 - p = i + 1 from by omega]
  refine (isNumber_any _ (i + 1) _ ((zs.drop p).take (i + 1)) _ ((hb.drop hp).take (by omega)) (by omega) (by omega)).mono ?_
  rintro e w1 ⟨rfl, rfl⟩
  rw [HK.out]
  go_wp2
  go_ret3
  exact ⟨rfl, rfl⟩

set_option maxRecDepth 100000 in
set_option maxHeartbeats 400000 in
theorem uint_ok (a : Option Addr) (k cap : Nat) (zs : List Int) (p i : Nat) (w : World) (hb : Bs w a k zs) (hk : k ≤ 70368744177664) (hkc : k ≤ cap) (hp : p ≤ k) (he : lastAt (zs.drop p) = some i) (hok : okNum ((zs.drop p).take (i + 1)) = true) :
    Calls Try.prog 22 #[.slice a k cap, .int .i64 (p : Int)] w fun e w' => e = .returned (.tuple #[.int .u64 (val ((zs.drop p).take (i + 1)) : Int), .int .i64 ((p + i + 1 : Nat) : Int), .int .u8 0]) ∧ w' = w := by
  have h1 : decide ((p : Int) < 0) = false := by simp
  have h2 : decide ((k : Int) < (p : Int)) = false := by simp; omega
  have hli := lastInt_some he
  have hlt := (lastAt_lt he).1
  rw [List.length_drop, hb.1] at hlt
  have hpc : p < cap := by omega
  have HK : Hid (okNum ((zs.drop p).take (i + 1)) = true) := hok
  have hlen : ((zs.drop p).take (i + 1)).length = i + 1 := by rw [List.length_take, List.length_drop, hb.1]; omega
  have h3 : i + 1 ≤ 10 ∧ (i + 1 = 10 → ((zs.drop p).take (i + 1)).getD 9 0 ≤ 1) := by
    have := of_decide_eq_true hok
    rw [hlen] at this
    refine ⟨this.1, fun h => ?_⟩
    have h4 := this.2.1 h
    rwa [show i + 1 - 1 = 9 by omega] at h4
  obtain ⟨h10, h11⟩ := h3
  have H11 : Hid (i + 1 = 10 → ((zs.drop p).take (i + 1)).getD 9 0 ≤ 1) := h11
  clear he hok h11 hlen
  go_enter Try.func22, Try.ntmps22
  go_wp2_with fail
  refine (indexFunc_any _ _ _ (zs.drop p) w (hb.drop hp) (by omega)).mono ?_
  rintro e w' ⟨rfl, rfl⟩
  rw [hli]
  have hi0 : decide ((i : Int) < 0) = false := by simp
  clear hli
  go_wp2_with fail
  rw [show p + i + 1 - p = i + 1 from by omega]
  refine (isNumber_any _ (i + 1) _ ((zs.drop p).take (i + 1)) _ ((hb.drop hp).take (by omega)) (by omega) (by omega)).mono ?_
  rintro e w1 ⟨rfl, rfl⟩
  rw [HK.out]
  go_wp2_with fail
  rw [show p + i + 1 - p = i + 1 from by omega]
  refine (join_any _ (i + 1) _ ((zs.drop p).take (i + 1)) _ ((hb.drop hp).take (by omega)) (by omega) H11.out).mono ?_
  rintro e w2 ⟨rfl, rfl⟩
  go_wp2
  go_ret3
  exact ⟨rfl, rfl⟩
end Go.Proofs.Ytfcckekinlobjaa
