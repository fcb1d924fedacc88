/-
  The walk of the law CodeSame, out of the contracts of what it calls.
-/
import Derived.Test.YtaajmhajeecciaaCodeLaw3
namespace Go.Proofs.Ytaajmhajeecciaa
open Go.RowKit
set_option linter.unusedVariables false

theorem rdU_cases (l : List Int) : rdU l = (0, 0, 10) ∨ rdU l = (0, 0, 7) ∨ ∃ v c, rdU l = (v, c, 0) := by
  unfold rdU
  cases lastAt l with
  | none => exact .inl rfl
  | some i =>
    cases h : okNum (l.take (i + 1)) with
    | false => simp [h]
    | true => simp [h]

theorem sb_str {xs : List Int} (h : ∀ z ∈ xs, 0 ≤ z ∧ z ≤ 255) : sb (strOfNums xs) = xs := by
  unfold sb
  rw [strOfNums_data, List.map_map]
  conv => rhs; rw [← List.map_id xs]
  apply List.map_congr_left
  intro z hz
  have := h z hz
  simp
  omega

set_option maxRecDepth 100000 in
set_option maxHeartbeats 1000000 in
theorem codeSame_walk (a : Option Addr) (m cap : Nat) (zs : List Int) (w : World) (hnil : a = none → m = 0 ∧ cap = 0) (hb : Bs w a m zs) (hmm : m ≤ maxLen) (hmc : m ≤ cap) :
    Calls Try.prog 5 #[.slice a m cap] w fun e w' => e = .returned (.bool true) ∧ Below w.heap.size w w' := by
  unfold maxLen at hmm
  by_cases h1 : 2000 < m
  · have t1 : decide ((2000 : Int) < (m : Int)) = true := by simp; omega
    go_enter Try.func5, Try.ntmps5
    go_wp2_with fail
    refine (alive_any _).mono ?_
    rintro e w1 ⟨rfl, hb1⟩
    go_wp2
    go_ret
    exact ⟨rfl, hb1⟩
  have t1 : decide ((2000 : Int) < (m : Int)) = false := by simp; omega
  rcases rdU_cases zs with hr | hr | ⟨v, c, hr⟩
  · have HR : Hid (rdU (zs.drop 0) = (0, 0, 10)) := hr
    clear hr
    go_enter Try.func5, Try.ntmps5
    go_wp2_with fail
    refine (alive_any _).mono ?_
    rintro e w1 ⟨rfl, hbw⟩
    have bs1 := hb.below hbw (Nat.le_refl _)
    go_wp2_with fail
    refine (uint_err a m cap zs 0 10 w1 bs1 (by omega) hmc (by omega) HR.out (by decide)).mono ?_
    rintro e w2 ⟨rfl, rfl⟩
    go_wp2_with fail
    refine (int_err a m cap zs 0 10 w2 bs1 (by omega) hmc (by omega) HR.out (by decide)).mono ?_
    rintro e w3 ⟨rfl, rfl⟩
    go_wp2_with fail
    refine (text_err a m cap zs 0 10 w3 bs1 (by omega) hmc (by omega) HR.out (by decide)).mono ?_
    rintro e w4 ⟨rfl, rfl⟩
    go_wp2_with fail
    go_quiet (fail)
    go_wp2
    go_quiet (fail)
    go_wp2
    go_ret
    exact ⟨rfl, below_drewN (below_drewN hbw _) _⟩
  · have HR : Hid (rdU (zs.drop 0) = (0, 0, 7)) := hr
    clear hr
    go_enter Try.func5, Try.ntmps5
    go_wp2_with fail
    refine (alive_any _).mono ?_
    rintro e w1 ⟨rfl, hbw⟩
    have bs1 := hb.below hbw (Nat.le_refl _)
    go_wp2_with fail
    refine (uint_err a m cap zs 0 7 w1 bs1 (by omega) hmc (by omega) HR.out (by decide)).mono ?_
    rintro e w2 ⟨rfl, rfl⟩
    go_wp2_with fail
    refine (int_err a m cap zs 0 7 w2 bs1 (by omega) hmc (by omega) HR.out (by decide)).mono ?_
    rintro e w3 ⟨rfl, rfl⟩
    go_wp2_with fail
    refine (text_err a m cap zs 0 7 w3 bs1 (by omega) hmc (by omega) HR.out (by decide)).mono ?_
    rintro e w4 ⟨rfl, rfl⟩
    go_wp2_with fail
    go_quiet (fail)
    go_wp2
    go_quiet (fail)
    go_wp2
    go_ret
    exact ⟨rfl, below_drewN (below_drewN hbw _) _⟩
  · obtain ⟨hv, hc1, hc2, hc3⟩ := rdU_bounds hb.2.1 hr
    rw [hb.1] at hc2
    obtain ⟨T, hT⟩ : ∃ T, T = zs.take c := ⟨_, rfl⟩
    have E1 : Hid (ubytes v = T) := by rw [hT]; exact rdU_same hb.2.1 hr
    have E2 : Hid (ubytes (zz (unzz v)) = T) := by rw [hT]; show ubytes (zz (unzz v)) = zs.take c; rw [zz_unzz]; exact rdU_same hb.2.1 hr
    have hTl : T.length ≤ 10 := by rw [hT, List.length_take]; omega
    have HT : Hid (∀ w', Bs w' a m zs → Bs w' a c T) := fun w' h => by rw [hT]; exact h.take hc2
    clear hT
    have hcm : c ≤ m := hc2
    have hu1 : -9223372036854775808 ≤ unzz v := by unfold unzz; split <;> omega
    have hu2 : unzz v < 9223372036854775808 := by unfold unzz; split <;> omega
    have HR : Hid (rdU (zs.drop 0) = (v, c, 0)) := hr
    have k0 : (0 : Int) ≤ (c : Int) := by omega
    have k1 : (c : Int) ≤ (m : Int) := by omega
    have k2 : (m : Int) ≤ (cap : Int) := by omega
    have k3 : (c : Int) ≤ (cap : Int) := by omega
    clear hr hc2
    by_cases hsh : m < 0 + c + v
    · go_enter Try.func5, Try.ntmps5
      go_wp2_with fail
      refine (alive_any _).mono ?_
      rintro e w1 ⟨rfl, hbw⟩
      have bs1 := hb.below hbw (Nat.le_refl _)
      go_wp2_with fail
      refine (uint_read a m cap zs 0 v c w1 bs1 (by omega) hmc (by omega) HR.out).mono ?_
      rintro e w2 ⟨rfl, rfl⟩
      rw [show ((0 + c : Nat) : Int) = (c : Int) from by omega]
      go_wp2_with fail
      refine (int_read a m cap zs 0 v c w2 bs1 (by omega) hmc (by omega) HR.out).mono ?_
      rintro e w3 ⟨rfl, rfl⟩
      rw [show ((0 + c : Nat) : Int) = (c : Int) from by omega]
      go_wp2_with fail
      refine (text_short a m cap zs 0 v c w3 bs1 (by omega) hmc (by omega) HR.out hsh).mono ?_
      rintro e w4 ⟨rfl, rfl⟩
      have hS0 : Bs w4.drew a m zs ∧ Below w.heap.size w w4.drew := ⟨bs1.below (Below.refl _ _).drew (Nat.le_refl w4.heap.size), hbw.drew⟩
      go_wp2_with fail
      go_region_held3 (fun w' => Bs w' a m zs ∧ Below w.heap.size w w') (first | exact hS0 | exact hS1 | exact hS2 | exact hS3 | exact hS4)
        (first
          | (go_at_call 8; refine (putUint_any none 0 0 [] v hv _ (fun _ => ⟨rfl, rfl⟩) (Bs.empty _ none) (by omega)).mono ?_; rintro e w5 ⟨v5, rfl, ho5, hb5⟩; rw [List.nil_append, E1.out] at ho5; have hS1 := And.intro (hS0.1.below hb5 (Nat.le_refl _)) (hS0.2.trans (hb5.mono hS0.2.size)); obtain ⟨a5, c5, rfl, hc5, hn5, bt5⟩ := ho5.slice; dsimp only)
          | (go_at_call 9; refine (putInt_any none 0 0 [] (unzz v) hu1 hu2 _ (fun _ => ⟨rfl, rfl⟩) (Bs.empty _ none) (by omega)).mono ?_; rintro e w7 ⟨v7, rfl, ho7, hb7⟩; rw [List.nil_append, E2.out] at ho7; have hS3 := And.intro (hS2.1.below hb7 (Nat.le_refl _)) (hS2.2.trans (hb7.mono hS2.2.size)); obtain ⟨a7, c7, rfl, hc7, hn7, bt7⟩ := ho7.slice; dsimp only)
          | (go_at_call_of 11 c5; refine (same_below a5 a T.length c c5 cap T T w5 bt5 (HT.out _ hS1.1) (by omega) (by omega)).mono ?_; rintro e w6 ⟨rfl, hb6⟩; rw [show decide (T = T) = true from by simp]; have hS2 := And.intro (hS1.1.below hb6 (Nat.le_refl _)) (hS1.2.trans (hb6.mono hS1.2.size)); dsimp only)
          | (go_at_call_of 11 c7; refine (same_below a7 a T.length c c7 cap T T w7 bt7 (HT.out _ hS3.1) (by omega) (by omega)).mono ?_; rintro e w8 ⟨rfl, hb8⟩; rw [show decide (T = T) = true from by simp]; have hS4 := And.intro (hS3.1.below hb8 (Nat.le_refl _)) (hS3.2.trans (hb8.mono hS3.2.size)); dsimp only))
      all_goals go_wp2
      all_goals go_quiet (fail)
      all_goals go_wp2
      all_goals go_ret
      all_goals exact ⟨rfl, below_drewN hS4.2 _⟩
    · have hrm : c + v ≤ m := by omega
      obtain ⟨st, hst⟩ : ∃ st, st = strOfNums ((zs.drop (0 + c)).take v) := ⟨_, rfl⟩
      have hxl : ((zs.drop c).take v).length = v := by rw [List.length_take, List.length_drop, hb.1]; omega
      have hsts : st.size = v := by rw [hst, Nat.zero_add, strOfNums_size, hxl]
      have hstb : sb st = (zs.drop c).take v := by
        rw [hst, Nat.zero_add]
        exact sb_str fun z hz => hb.2.1 z (List.mem_of_mem_drop (List.mem_of_mem_take hz))
      obtain ⟨R, hR⟩ : ∃ R, R = c + v := ⟨_, rfl⟩
      obtain ⟨U, hU⟩ : ∃ U, U = zs.take R := ⟨_, rfl⟩
      have E3 : Hid (ubytes st.size ++ sb st = U) := by
        show ubytes st.size ++ sb st = U
        rw [hsts, hstb, hU, hR, rdU_same hb.2.1 HR.out, List.take_add]
      have hRm : R ≤ m := by omega
      have hUl : U.length ≤ 2000 := by rw [hU, List.length_take]; omega
      have HU : Hid (∀ w', Bs w' a m zs → Bs w' a R U) := fun w' h => by rw [hU]; exact h.take hRm
      have Hst : Hid (strOfNums ((zs.drop (0 + c)).take v) = st) := hst.symm
      have HRR : Hid (0 + c + v = R) := by show 0 + c + v = R; omega
      have hstm : st.size ≤ 2000 := by omega
      have k4 : (0 : Int) ≤ (R : Int) := by omega
      have k5 : (R : Int) ≤ (m : Int) := by omega
      have k6 : (R : Int) ≤ (cap : Int) := by omega
      clear hst hxl hsts hstb hR hU
      go_enter Try.func5, Try.ntmps5
      go_wp2_with fail
      refine (alive_any _).mono ?_
      rintro e w1 ⟨rfl, hbw⟩
      have bs1 := hb.below hbw (Nat.le_refl _)
      go_wp2_with fail
      refine (uint_read a m cap zs 0 v c w1 bs1 (by omega) hmc (by omega) HR.out).mono ?_
      rintro e w2 ⟨rfl, rfl⟩
      rw [show ((0 + c : Nat) : Int) = (c : Int) from by omega]
      go_wp2_with fail
      refine (int_read a m cap zs 0 v c w2 bs1 (by omega) hmc (by omega) HR.out).mono ?_
      rintro e w3 ⟨rfl, rfl⟩
      rw [show ((0 + c : Nat) : Int) = (c : Int) from by omega]
      go_wp2_with fail
      refine (text_read a m cap zs 0 v c w3 bs1 (by omega) hmc (by omega) HR.out (by omega)).mono ?_
      rintro e w4 ⟨rfl, rfl⟩
      rw [show ((0 + c + v : Nat) : Int) = (R : Int) from by rw [HRR.out], Hst.out]
      have hS0 : Bs w4.drew a m zs ∧ Below w.heap.size w w4.drew := ⟨bs1.below (Below.refl _ _).drew (Nat.le_refl w4.heap.size), hbw.drew⟩
      go_wp2_with fail
      go_region_held3 (fun w' => Bs w' a m zs ∧ Below w.heap.size w w') (first | exact hS0 | exact hS1 | exact hS2 | exact hS3 | exact hS4)
        (first
          | (go_at_call 8; refine (putUint_any none 0 0 [] v hv _ (fun _ => ⟨rfl, rfl⟩) (Bs.empty _ none) (by omega)).mono ?_; rintro e w5 ⟨v5, rfl, ho5, hb5⟩; rw [List.nil_append, E1.out] at ho5; have hS1 := And.intro (hS0.1.below hb5 (Nat.le_refl _)) (hS0.2.trans (hb5.mono hS0.2.size)); obtain ⟨a5, c5, rfl, hc5, hn5, bt5⟩ := ho5.slice; dsimp only)
          | (go_at_call 9; refine (putInt_any none 0 0 [] (unzz v) hu1 hu2 _ (fun _ => ⟨rfl, rfl⟩) (Bs.empty _ none) (by omega)).mono ?_; rintro e w7 ⟨v7, rfl, ho7, hb7⟩; rw [List.nil_append, E2.out] at ho7; have hS3 := And.intro (hS2.1.below hb7 (Nat.le_refl _)) (hS2.2.trans (hb7.mono hS2.2.size)); obtain ⟨a7, c7, rfl, hc7, hn7, bt7⟩ := ho7.slice; dsimp only)
          | (go_at_call_of 11 c5; refine (same_below a5 a T.length c c5 cap T T w5 bt5 (HT.out _ hS1.1) (by omega) (by omega)).mono ?_; rintro e w6 ⟨rfl, hb6⟩; rw [show decide (T = T) = true from by simp]; have hS2 := And.intro (hS1.1.below hb6 (Nat.le_refl _)) (hS1.2.trans (hb6.mono hS1.2.size)); dsimp only)
          | (go_at_call_of 11 c7; refine (same_below a7 a T.length c c7 cap T T w7 bt7 (HT.out _ hS3.1) (by omega) (by omega)).mono ?_; rintro e w8 ⟨rfl, hb8⟩; rw [show decide (T = T) = true from by simp]; have hS4 := And.intro (hS3.1.below hb8 (Nat.le_refl _)) (hS3.2.trans (hb8.mono hS3.2.size)); dsimp only))
      all_goals go_wp2
      have hS5 : Bs w8.drew a m zs ∧ Below w.heap.size w w8.drew := ⟨hS4.1.below (Below.refl _ _).drew (Nat.le_refl w8.heap.size), hS4.2.drew⟩
      go_region_held3 (fun w' => Bs w' a m zs ∧ Below w.heap.size w w') (first | exact hS5 | exact hS6 | exact hS7)
        (first
          | (go_at_call 10; refine (putText_any none 0 0 [] st _ (fun _ => ⟨rfl, rfl⟩) (Bs.empty _ none) (by omega) (by omega)).mono ?_; rintro e w10 ⟨v10, rfl, ho10, hb10⟩; rw [List.nil_append, E3.out] at ho10; have hS6 := And.intro (hS5.1.below hb10 (Nat.le_refl _)) (hS5.2.trans (hb10.mono hS5.2.size)); obtain ⟨a10, c10, rfl, hc10, hn10, bt10⟩ := ho10.slice; dsimp only)
          | (go_at_call 11; refine (same_below a10 a U.length R c10 cap U U w10 bt10 (HU.out _ hS6.1) (by omega) (by omega)).mono ?_; rintro e w11 ⟨rfl, hb11⟩; rw [show decide (U = U) = true from by simp]; have hS7 := And.intro (hS6.1.below hb11 (Nat.le_refl _)) (hS6.2.trans (hb11.mono hS6.2.size)); dsimp only))
      all_goals go_wp2
      all_goals go_ret
      all_goals exact ⟨rfl, hS7.2⟩
end Go.Proofs.Ytaajmhajeecciaa
