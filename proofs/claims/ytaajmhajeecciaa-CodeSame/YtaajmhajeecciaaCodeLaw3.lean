/-
  The walk of the law CodeOrder, out of the contracts of what it calls.
-/
import Derived.Test.YtaajmhajeecciaaCodeLaw2
import Derived.Deep.RegionHeld3
namespace Go.Proofs.Ytaajmhajeecciaa
open Go.RowKit
set_option linter.unusedVariables false

theorem ub_mono : ∀ (k a b : Nat), a ≤ b → (ub k a).length ≤ (ub k b).length
  | 0, a, b, h => by simp [ub]
  | k + 1, a, b, h => by
    rw [ub, ub]
    split
    · split
      · simp
      · have := ub_length k (b / 128); simp
    · rw [if_neg (by omega)]
      simp
      exact ub_mono k _ _ (by omega)
theorem ubytes_inj {a b : Nat} (ha : a < 2 ^ 64) (hb : b < 2 ^ 64) (h : ubytes a = ubytes b) : a = b := by
  have h1 : val (ubytes a) = a := val_ub 9 a (by omega)
  have h2 : val (ubytes b) = b := val_ub 9 b (by omega)
  rw [← h1, ← h2, h]

/-- What stands from a place on, as the walk writes it where nothing is known of the capacity. -/
theorem Bs.cut {w : World} {a : Option Addr} {n : Nat} {zs : List Int} (h : Bs w a n zs) {p cap : Nat} (hp : p ≤ n) (hc : n ≤ cap) : Bs w (if cap = p then a else Option.map (fun x => x.add p) a) (n - p) (zs.drop p) := by
  split
  · have e : n = p := by omega
    subst e
    rw [Nat.sub_self, List.drop_eq_nil_of_le (by rw [h.1]; omega)]
    exact Bs.empty w a
  · exact h.drop hp

/-- What is held while the last statement of CodeOrder is carried out, in whatever order: the text's bytes lie there, and they make the text. -/
def Held3 (w : World) (a : Option Addr) (M : Nat) (L : List Int) (C cap : Nat) (s : ByteArray) (w' : World) : Prop :=
  (convert 22 9 (.slice (if cap = C then a else Option.map (fun x => x.add C) a) (M - C) (cap - C))).run Try.prog w' = .ok (.string s) w' ∧ Bs w' a M L ∧ Below w.heap.size w w'

set_option maxRecDepth 100000 in
set_option maxHeartbeats 1000000 in
theorem codeOrder_walk (a b : Nat) (s : ByteArray) (w : World) (ha : a < 2 ^ 64) (hb : b < 2 ^ 64) (hs : s.size ≤ maxLen) :
    Calls Try.prog 6 #[.int .u64 (a : Int), .int .u64 (b : Int), .string s] w fun e w' => e = .returned (.bool true) ∧ Below w.heap.size w w' := by
  unfold maxLen at hs
  by_cases h2 : 2000 < s.size
  · have t2 : decide ((2000 : Int) < (s.size : Int)) = true := by simp; omega
    go_enter Try.func6, Try.ntmps6
    go_wp2_with fail
    refine (alive_any _).mono ?_
    rintro e w1 ⟨rfl, hb1⟩
    go_wp2
    go_ret
    exact ⟨rfl, hb1⟩
  have t2 : decide ((2000 : Int) < (s.size : Int)) = false := by simp; omega
  go_enter Try.func6, Try.ntmps6
  go_wp2_with fail
  refine (alive_any _).mono ?_
  rintro e w1 ⟨rfl, hbw⟩
  go_wp2_with fail
  refine (putUint_any none 0 0 [] a ha w1 (fun _ => ⟨rfl, rfl⟩) (Bs.empty w1 none) (by omega)).mono ?_
  rintro e w2 ⟨v2, rfl, ho2, hb2⟩
  replace hbw : Below w.heap.size w w2 := hbw.trans (hb2.mono hbw.size)
  clear hb2
  rw [List.nil_append] at ho2
  go_wp2_with fail
  refine (putUint_any none 0 0 [] b hb w2 (fun _ => ⟨rfl, rfl⟩) (Bs.empty w2 none) (by omega)).mono ?_
  rintro e w3 ⟨v3, rfl, ho3, hb3⟩
  replace hbw : Below w.heap.size w w3 := hbw.trans (hb3.mono hbw.size)
  replace ho2 := ho2.below hb3 (Nat.le_refl _)
  clear hb3
  rw [List.nil_append] at ho3
  go_wp2_with fail
  refine (putText_any none 0 0 [] s w3 (fun _ => ⟨rfl, rfl⟩) (Bs.empty w3 none) (by omega) (by omega)).mono ?_
  rintro e w4 ⟨v4, rfl, ho4, hb4⟩
  replace hbw : Below w.heap.size w w4 := hbw.trans (hb4.mono hbw.size)
  replace ho2 := ho2.below hb4 (Nat.le_refl _)
  replace ho3 := ho3.below hb4 (Nat.le_refl _)
  clear hb4
  rw [List.nil_append] at ho4
  obtain ⟨A, hA⟩ : ∃ A, A = (ubytes a).length := ⟨_, rfl⟩
  obtain ⟨B, hB⟩ : ∃ B, B = (ubytes b).length := ⟨_, rfl⟩
  obtain ⟨C, hC⟩ : ∃ C, C = (ubytes s.size).length := ⟨_, rfl⟩
  obtain ⟨L, hL⟩ : ∃ L, L = ubytes s.size ++ sb s := ⟨_, rfl⟩
  obtain ⟨M, hM⟩ : ∃ M, M = L.length := ⟨_, rfl⟩
  rw [← hL] at ho4
  obtain ⟨a2, c2, hv2, hc2, hn2, bs2⟩ := ho2.slice
  obtain ⟨a3, c3, hv3, hc3, hn3, bs3⟩ := ho3.slice
  obtain ⟨a4, c4, hv4, hc4, hn4, bs4⟩ := ho4.slice
  rw [← hA] at hv2 hc2 hn2 bs2
  rw [← hB] at hv3 hc3 hn3 bs3
  rw [← hM] at hv4 hc4 hn4 bs4
  subst hv2 hv3 hv4
  have hMC : M = C + s.size := by rw [hM, hL, List.length_append, sb_length, hC]
  have hl1 := ubytes_le a
  have hl2 := ubytes_le b
  have hl3 := ubytes_le s.size
  have q1 : A ≤ 10 := by omega
  have q2 : B ≤ 10 := by omega
  have q3 : C ≤ 10 := by omega
  have q4 : 1 ≤ C := by omega
  have q5 : M ≤ 2010 := by omega
  have q6 : C ≤ M := by omega
  have hmono : a ≤ b → A ≤ B := fun h => by rw [hA, hB]; exact ub_mono 9 a b h
  have Hmono : Hid (a ≤ b → A ≤ B) := hmono
  have HA : Hid (A = (ubytes a).length) := hA
  have HC : Hid (C = (ubytes s.size).length) := hC
  have HL : Hid (L = ubytes s.size ++ sb s) := hL
  have HM : Hid (M = L.length) := hM
  have HMC : Hid (M = C + s.size) := hMC
  clear hl1 hl2 hl3 hA hB hC hL hM hMC hmono ho2 ho3 ho4 hn2 hn3
  have v5 : ((A : Int) != (A : Int)) = false := by simp
  obtain ⟨x, hx⟩ : ∃ x : Bool, x = ((a : Int) == (b : Int)) := ⟨_, rfl⟩
  have hsame : decide (ubytes a = ubytes b) = x := by
    rw [hx, Bool.eq_iff_iff, decide_eq_true_iff, beq_iff_eq]
    constructor
    · intro h; rw [ubytes_inj ha hb h]
    · intro h; rw [show a = b by omega]
  have hxx : (x != x) = false := by cases x <;> rfl
  have Hsame : Hid (decide (ubytes a = ubytes b) = x) := hsame
  have hx' : ((a : Int) == (b : Int)) = x := hx.symm
  clear hx hsame
  by_cases hab : a ≤ b
  · have hAB : A ≤ B := Hmono.out hab
    go_wp2_with fail
    refine (same_below a2 a3 A B c2 c3 _ _ w4 bs2 bs3 (by omega) (by omega)).mono ?_
    rintro e w5 ⟨rfl, hb5⟩
    rw [Hsame.out]
    replace hbw : Below w.heap.size w w5 := hbw.trans (hb5.mono hbw.size)
    replace bs4 := bs4.below hb5 (Nat.le_refl _)
    clear hb5 bs2 bs3
    go_wp2_with fail
    refine (len_any a ha _).mono ?_
    rintro e w6 ⟨rfl, rfl⟩
    rw [← HA.out]
    go_wp2_with fail
    refine (len_any s.size (by omega) _).mono ?_
    rintro e w7 ⟨rfl, rfl⟩
    rw [← HC.out]
    have z1 : ((M : Int) == (C : Int) + (s.size : Int)) = true := by rw [beq_iff_eq]; have := HMC.out; omega
    have z1' : IntKind.i64.wrap ((C : Int) + (s.size : Int)) = (M : Int) := by have := HMC.out; simp [IntKind.wrap, IntKind.bits, IntKind.signed]; omega
    go_wp2_with fail
    have z2 : strOfNums (L.drop C) = s := by rw [HL.out, HC.out, List.drop_left' rfl, str_sb]
    have z3 : L.take C = ubytes s.size := by rw [HL.out, HC.out, List.take_left' rfl]
    have Z3 : Hid (L.take C = ubytes s.size) := z3
    have hkeep : ∀ w', Bs w' a4 M L → Below w.heap.size w w' → Held3 w a4 M L C c4 s w' := fun w' h1 h2 => ⟨by have := run_str (h1.cut q6 hc4) (c4 - C); rwa [z2] at this, h1, h2⟩
    have Hkeep : Hid (∀ w', Bs w' a4 M L → Below w.heap.size w w' → Held3 w a4 M L C c4 s w') := hkeep
    have hS0 : Held3 w a4 M L C c4 s w7.drew := hkeep _ (bs4.below (Below.refl _ _).drew (Nat.le_refl w7.heap.size)) hbw.drew
    have zu : IntKind.u64.wrap (s.size : Int) = (s.size : Int) := by simp [IntKind.wrap, IntKind.bits, IntKind.signed]; omega
    have k0 : (0 : Int) ≤ (C : Int) := by omega
    have k1 : (C : Int) ≤ (M : Int) := by omega
    have k2 : (M : Int) ≤ (c4 : Int) := by omega
    have k3 : (C : Int) ≤ (c4 : Int) := by omega
    clear z2 z3 hkeep
    go_region_held3 (fun w' => (convert 22 9 (.slice (if c4 = C then a4 else Option.map (fun x => x.add C) a4) (M - C) (c4 - C))).run Try.prog w' = .ok (.string s) w' ∧ Bs w' a4 M L ∧ Below w.heap.size w w') (first | exact hS0 | exact hS1 | exact hS2)
      (first
        | (go_at_call 8; refine (putUint_any none 0 0 [] s.size (by omega) _ (fun _ => ⟨rfl, rfl⟩) (Bs.empty _ none) (by omega)).mono ?_; rintro e w8 ⟨v8, rfl, ho8, hb8⟩; rw [List.nil_append] at ho8; have bs8 := hS0.2.1.below hb8 (Nat.le_refl _); have hbw8 := hS0.2.2.trans (hb8.mono hbw.size); have hS1 := Hkeep.out _ bs8 hbw8; obtain ⟨a8, c8, rfl, hc8, hn8, bt8⟩ := ho8.slice; dsimp only)
        | (go_at_call 11; refine (same_below a4 a8 C (ubytes s.size).length c4 c8 (L.take C) (ubytes s.size) w8 (bs8.take q6) bt8 (by omega) (by rw [← HC.out]; omega)).mono ?_; rintro e w9 ⟨rfl, hb9⟩; rw [Z3.out, show decide (ubytes s.size = ubytes s.size) = true from by simp]; have bs9 := bs8.below hb9 (Nat.le_refl _); have hbw9 := hbw8.trans (hb9.mono hbw8.size); have hS2 := Hkeep.out _ bs9 hbw9; dsimp only))
    all_goals go_wp2
    all_goals go_ret
    all_goals exact ⟨rfl, hbw9⟩
  · go_wp2_with fail
    refine (same_below a2 a3 A B c2 c3 _ _ w4 bs2 bs3 (by omega) (by omega)).mono ?_
    rintro e w5 ⟨rfl, hb5⟩
    rw [Hsame.out]
    replace hbw : Below w.heap.size w w5 := hbw.trans (hb5.mono hbw.size)
    replace bs4 := bs4.below hb5 (Nat.le_refl _)
    clear hb5 bs2 bs3
    go_wp2_with fail
    refine (len_any a ha _).mono ?_
    rintro e w6 ⟨rfl, rfl⟩
    rw [← HA.out]
    go_wp2_with fail
    refine (len_any s.size (by omega) _).mono ?_
    rintro e w7 ⟨rfl, rfl⟩
    rw [← HC.out]
    have z1 : ((M : Int) == (C : Int) + (s.size : Int)) = true := by rw [beq_iff_eq]; have := HMC.out; omega
    have z1' : IntKind.i64.wrap ((C : Int) + (s.size : Int)) = (M : Int) := by have := HMC.out; simp [IntKind.wrap, IntKind.bits, IntKind.signed]; omega
    go_wp2_with fail
    have z2 : strOfNums (L.drop C) = s := by rw [HL.out, HC.out, List.drop_left' rfl, str_sb]
    have z3 : L.take C = ubytes s.size := by rw [HL.out, HC.out, List.take_left' rfl]
    have Z3 : Hid (L.take C = ubytes s.size) := z3
    have hkeep : ∀ w', Bs w' a4 M L → Below w.heap.size w w' → Held3 w a4 M L C c4 s w' := fun w' h1 h2 => ⟨by have := run_str (h1.cut q6 hc4) (c4 - C); rwa [z2] at this, h1, h2⟩
    have Hkeep : Hid (∀ w', Bs w' a4 M L → Below w.heap.size w w' → Held3 w a4 M L C c4 s w') := hkeep
    have hS0 : Held3 w a4 M L C c4 s w7.drew := hkeep _ (bs4.below (Below.refl _ _).drew (Nat.le_refl w7.heap.size)) hbw.drew
    have zu : IntKind.u64.wrap (s.size : Int) = (s.size : Int) := by simp [IntKind.wrap, IntKind.bits, IntKind.signed]; omega
    have k0 : (0 : Int) ≤ (C : Int) := by omega
    have k1 : (C : Int) ≤ (M : Int) := by omega
    have k2 : (M : Int) ≤ (c4 : Int) := by omega
    have k3 : (C : Int) ≤ (c4 : Int) := by omega
    clear z2 z3 hkeep
    go_region_held3 (fun w' => (convert 22 9 (.slice (if c4 = C then a4 else Option.map (fun x => x.add C) a4) (M - C) (c4 - C))).run Try.prog w' = .ok (.string s) w' ∧ Bs w' a4 M L ∧ Below w.heap.size w w') (first | exact hS0 | exact hS1 | exact hS2)
      (first
        | (go_at_call 8; refine (putUint_any none 0 0 [] s.size (by omega) _ (fun _ => ⟨rfl, rfl⟩) (Bs.empty _ none) (by omega)).mono ?_; rintro e w8 ⟨v8, rfl, ho8, hb8⟩; rw [List.nil_append] at ho8; have bs8 := hS0.2.1.below hb8 (Nat.le_refl _); have hbw8 := hS0.2.2.trans (hb8.mono hbw.size); have hS1 := Hkeep.out _ bs8 hbw8; obtain ⟨a8, c8, rfl, hc8, hn8, bt8⟩ := ho8.slice; dsimp only)
        | (go_at_call 11; refine (same_below a4 a8 C (ubytes s.size).length c4 c8 (L.take C) (ubytes s.size) w8 (bs8.take q6) bt8 (by omega) (by rw [← HC.out]; omega)).mono ?_; rintro e w9 ⟨rfl, hb9⟩; rw [Z3.out, show decide (ubytes s.size = ubytes s.size) = true from by simp]; have bs9 := bs8.below hb9 (Nat.le_refl _); have hbw9 := hbw8.trans (hb9.mono hbw8.size); have hS2 := Hkeep.out _ bs9 hbw9; dsimp only))
    all_goals go_wp2
    all_goals go_ret
    all_goals exact ⟨rfl, hbw9⟩
end Go.Proofs.Ytaajmhajeecciaa
