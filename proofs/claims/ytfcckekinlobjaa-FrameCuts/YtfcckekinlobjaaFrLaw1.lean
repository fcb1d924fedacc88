/-
  What soritesref04.Frame and soriteslaw04.alive return; the walk of the law FramePuts.
-/
import Derived.Test.YtfcckekinlobjaaFrGet
import Derived.Test.YtfcckekinlobjaaFrRefUint
namespace Go.Proofs.Ytfcckekinlobjaa
open Go.RowKit
set_option linter.unusedVariables false

set_option maxRecDepth 100000 in
set_option maxHeartbeats 800000 in
theorem refFrame_any (b : Option Addr) (m d : Nat) (rs : List Int) (w : World) (hq : Piece.ok w ⟨b, m, d, rs⟩) (hm : m ≤ 65536) :
    Calls Try.prog 10 #[.slice b m d] w fun e w' => ∃ v, e = .returned v ∧ Own w' w.heap.size v (frameOf rs) ∧ Below w.heap.size w w' := by
  have hlr : rs.length = m := hq.2.1.1
  have hnil : b = none → m = 0 ∧ d = 0 := hq.1
  have hbs : Bs w b m rs := hq.2.1
  have hu : (ubytes m).length ≤ 10 := (ubytes_le m).2
  obtain ⟨U, hU⟩ : ∃ U, U = ubytes m := ⟨_, rfl⟩
  rw [← hU] at hu
  have HU : Hid (∀ w, Calls Try.prog 8 #[.int .u64 (m : Int)] w fun e w' => ∃ v, e = .returned v ∧ Own w' w.heap.size v U ∧ Below w.heap.size w w') := fun w => by rw [hU]; exact refUint m (by omega) w
  have HF : frameOf rs = U ++ wbytes (crcOf (U ++ rs)) ++ rs := by rw [frameOf, hlr, hU, List.append_assoc]
  obtain ⟨G, hG⟩ : ∃ G, G = frameOf rs := ⟨_, rfl⟩
  rw [← hG]
  have HG : Hid (G = U ++ wbytes (crcOf (U ++ rs)) ++ rs) := hG.trans HF
  clear hU HF hG hq
  go_enter Try.func10, Try.ntmps10
  go_wp2_with fail
  refine (HU.out _).mono ?_
  rintro e w1 ⟨v1, rfl, ho1, hb1⟩
  obtain ⟨a1, c1, rfl, hc1, hnil1, hbs1⟩ := ho1.slice
  have hz1 := hb1.size
  have hr1 := hbs.below hb1 (Nat.le_refl _)
  clear ho1
  obtain ⟨u, hul⟩ : ∃ u, u = U.length := ⟨_, rfl⟩
  rw [← hul] at hbs1 hc1 hnil1 hu
  rw [← hul]
  have hUl : U.length = u := hul.symm
  clear hul
  go_wp2_with (at_builtin; refine wpList_append_bytes _ rfl _ _ rfl w1.heap.size Try.underlying22 info_u8 _ [] rfl (own_new0 w1 _ (Nat.le_refl _)) a1 u c1 U rfl hnil1 (hbs1.below ((Below.refl _ _).alloc (Nat.le_refl _) _) (Nat.le_refl _)) ?d1 ?d2 ?_)
  case d1 => simp; omega
  case d2 => simp
  intro v2 w2 ho2 hg2
  have hb2 : Below w1.heap.size w1 w2 := ((Below.refl _ _).alloc (Nat.le_refl _) _).trans (Below.of_grown (own_new0 w1 _ (Nat.le_refl _)) hg2 (by simp))
  try rw [List.nil_append] at ho2
  have hz2 := hb2.size
  have hr2 := hr1.below hb2 (Nat.le_refl _)
  clear hg2
  go_wp2_with (at_builtin; refine wpList_append_bytes _ rfl _ _ rfl w1.heap.size Try.underlying22 info_u8 _ U rfl ho2 b m d rs rfl hnil hr2 ?d1 hz2 ?_)
  case d1 => omega
  intro v3 w3 ho3 hg3
  have hb3 : Below w1.heap.size w1 w3 := hb2.trans (Below.of_grown ho2 hg3 hz2)
  have hz3 := hb3.size
  have hr3 := hr1.below hb3 (Nat.le_refl _)
  have hu3 := hbs1.below hb3 (Nat.le_refl _)
  obtain ⟨a3, c3, rfl, hc3, hnil3, hbs3⟩ := ho3.slice
  obtain ⟨X, hX⟩ : ∃ X, X = U ++ rs := ⟨_, rfl⟩
  have hXl : X.length = u + m := by rw [hX, List.length_append, hUl, hlr]
  rw [← hX] at HG hbs3
  rw [hXl] at hbs3
  rw [show (U ++ rs).length = u + m from by rw [← hX, hXl]]
  have HC : Hid (crcOf X < 2 ^ 32) := crcOf_lt hbs3.2.1
  clear hX hg3 ho3 ho2 hnil3 hc3 hr2 hXl hb2
  go_wp2_with fail
  refine (refOf_any a3 (u + m) c3 X w3 hbs3 (by omega)).mono ?_
  rintro e w' ⟨rfl, rfl⟩
  go_wp2_with fail
  refine (refWord_any (crcOf X) HC.out _).mono ?_
  rintro e w4 ⟨v4, rfl, ho4, hb4⟩
  obtain ⟨a4, c4, rfl, hc4, hnil4, hbs4⟩ := ho4.slice
  obtain ⟨Y, hY⟩ : ∃ Y, Y = wbytes (crcOf X) := ⟨_, rfl⟩
  have hYl : Y.length = 4 := by rw [hY]; rfl
  rw [← hY] at hbs4 HG hnil4
  rw [← hY]
  rw [hYl] at hbs4 hnil4
  rw [hYl]
  have hb4' : Below w.heap.size w w4 := hb1.trans ((hb3.trans (hb4.mono hz3)).mono hz1)
  have hz4 := hb4'.size
  have hu4 := hu3.below hb4 (Nat.le_refl _)
  have hr4 := hr3.below hb4 (Nat.le_refl _)
  clear hY ho4 hc4 hu3 hr3 hr1 hbs1 hbs3 hb3 hb4 HC
  go_wp2_with (at_builtin; refine wpList_append_bytes _ rfl _ _ rfl w4.heap.size Try.underlying22 info_u8 _ [] rfl (own_new0 w4 _ (Nat.le_refl _)) a1 u c1 U rfl hnil1 (hu4.below ((Below.refl _ _).alloc (Nat.le_refl _) _) (Nat.le_refl _)) ?d1 ?d2 ?_)
  case d1 => simp; omega
  case d2 => simp
  intro v5 w5 ho5 hg5
  have hb5 : Below w4.heap.size w4 w5 := ((Below.refl _ _).alloc (Nat.le_refl _) _).trans (Below.of_grown (own_new0 w4 _ (Nat.le_refl _)) hg5 (by simp))
  try rw [List.nil_append] at ho5
  have hz5 := hb5.size
  have hw5 := hbs4.below hb5 (Nat.le_refl _)
  clear hg5
  go_wp2_with (at_builtin; refine wpList_append_bytes _ rfl _ _ rfl w4.heap.size Try.underlying22 info_u8 _ U rfl ho5 a4 4 c4 Y rfl hnil4 hw5 ?d1 hz5 ?_)
  case d1 => omega
  intro v6 w6 ho6 hg6
  have hb6 : Below w4.heap.size w4 w6 := hb5.trans (Below.of_grown ho5 hg6 hz5)
  have hz6 := hb6.size
  have hr6 := hr4.below hb6 (Nat.le_refl _)
  obtain ⟨Z, hZ⟩ : ∃ Z, Z = U ++ Y := ⟨_, rfl⟩
  have hZl : Z.length = u + 4 := by rw [hZ, List.length_append, hUl, hYl]
  rw [← hZ] at ho6 HG
  clear hg6 hZ ho5 hw5
  go_wp2_with (at_builtin; refine wpList_append_bytes _ rfl _ _ rfl w4.heap.size Try.underlying22 info_u8 _ Z rfl ho6 b m d rs rfl hnil hr6 ?d1 hz6 ?_)
  case d1 => omega
  intro v7 w7 ho7 hg7
  have hb7 : Below w4.heap.size w4 w7 := hb6.trans (Below.of_grown ho6 hg7 hz6)
  clear hg7
  go_wp2
  go_ret
  exact ⟨_, rfl, by rw [HG.out]; exact ho7.mono hz4, hb4'.trans (hb7.mono hz4)⟩

theorem pnil_ok (w : World) : Piece.ok w ⟨none, 0, 0, []⟩ := ⟨fun _ => ⟨rfl, rfl⟩, Bs.empty _ _, Nat.zero_le _, Nat.le_refl _⟩

theorem frame_nil : (frameOf []).length = 5 := by decide +kernel
theorem ubytes0 : (ubytes 0).length = 1 := by decide

set_option maxRecDepth 100000 in
set_option maxHeartbeats 1000000 in
theorem alive_any (w : World) :
    Calls Try.prog 6 #[] w fun e w' => e = .returned (.bool true) ∧ Below w.heap.size w w' := by
  go_enter Try.func6, Try.ntmps6
  go_wp2_with fail
  refine (fput_any none none 0 0 0 0 [] [] w (pnil_ok w) (pnil_ok w) (by omega) (by omega)).mono ?_
  rintro e w1 ⟨v1, rfl, ho1, hb1⟩
  obtain ⟨a1, c1, rfl, hc1, hnil1, _⟩ := ho1.slice
  rw [List.nil_append, frame_nil]
  clear ho1 hnil1 hc1
  go_wp2_with fail
  refine (get_arg a1 5 c1 6 w1 (by omega)).mono ?_
  rintro e w' ⟨rfl, rfl⟩
  go_wp2_with fail
  refine (size_any 0 (by omega) _).mono ?_
  rintro e w2 ⟨rfl, rfl⟩
  rw [ubytes0]
  go_wp2
  go_ret
  exact ⟨rfl, hb1⟩
theorem Piece.ok.below {B : Nat} {w w' : World} {p : Piece} (h : Piece.ok w p) (hb : Below B w w') (hB : w.heap.size ≤ B) : Piece.ok w' p := ⟨h.1, h.2.1.below hb hB, h.2.2⟩

set_option maxRecDepth 100000 in
set_option maxHeartbeats 4000000 in
theorem framePuts_walk (a b : Option Addr) (k m ca d : Nat) (zs rs : List Int) (n : Int) (w : World) (hp : Piece.ok w ⟨a, k, ca, zs⟩) (hq : Piece.ok w ⟨b, m, d, rs⟩) (n1 : -9223372036854775808 ≤ n) (n2 : n < 9223372036854775808) :
    Calls Try.prog 3 #[.slice a k ca, .slice b m d, .int .i64 n] w fun e w' => e = .returned (.bool true) ∧ Below w.heap.size w w' := by
  have hkm : k ≤ maxLen := hp.2.2.1
  have hmm : m ≤ maxLen := hq.2.2.1
  unfold maxLen at hkm hmm
  by_cases h1 : 500 < k
  · have t1 : (500 : Int) < (k : Int) := by omega
    go_enter Try.func3, Try.ntmps3
    go_wp2_with fail
    refine (alive_any _).mono ?_
    rintro e w1 ⟨rfl, hb1⟩
    go_wp2
    go_ret
    exact ⟨rfl, hb1⟩
  have t1 : ¬ (500 : Int) < (k : Int) := by omega
  by_cases h2 : 1000 < m
  · have t2 : (1000 : Int) < (m : Int) := by omega
    go_enter Try.func3, Try.ntmps3
    go_wp2_with fail
    refine (alive_any _).mono ?_
    rintro e w1 ⟨rfl, hb1⟩
    go_wp2
    go_ret
    exact ⟨rfl, hb1⟩
  have t2 : ¬ (1000 : Int) < (m : Int) := by omega
  have hzl : zs.length = k := hp.2.1.1
  have hrl : rs.length = m := hq.2.1.1
  obtain ⟨f, hf⟩ : ∃ f, f = (ubytes m).length + 4 + m := ⟨_, rfl⟩
  have hFl : (frameOf rs).length = f := by rw [frameOf, List.length_append, List.length_append, hrl, hf]; simp [wbytes]; omega
  have hfb : f ≤ 2000 := by have := (ubytes_le m).2; omega
  have HSm : Hid (∀ w, Calls Try.prog 11 #[.int .i64 (m : Int)] w fun e w' => e = .returned (.int .i64 (f : Int)) ∧ w' = w) := fun w => by rw [hf]; exact size_any m (by omega) w
  obtain ⟨X, hX⟩ : ∃ X, X = zs ++ frameOf rs := ⟨_, rfl⟩
  have hXl : X.length = k + f := by rw [hX, List.length_append, hzl, hFl]
  have HX : Hid (X = zs ++ frameOf rs) := hX
  clear hX hf h1 h2 hrl
  by_cases h3 : 0 ≤ n ∧ n ≤ 65536
  · obtain ⟨N, rfl⟩ := Int.eq_ofNat_of_zero_le h3.1
    have hN : N ≤ 65536 := by omega
    have t3 : (0 : Int) ≤ (N : Int) := by omega
    have t4 : (N : Int) ≤ 65536 := by omega
    have hu := (ubytes_le N).2
    obtain ⟨U, hU⟩ : ∃ U, U = ubytes N := ⟨_, rfl⟩
    have HU : Hid (∀ w, Calls Try.prog 8 #[.int .u64 (N : Int)] w fun e w' => ∃ v, e = .returned v ∧ Own w' w.heap.size v U ∧ Below w.heap.size w w') := fun w => by rw [hU]; exact refUint N (by omega) w
    rw [← hU] at hu
    obtain ⟨u, hul⟩ : ∃ u, u = U.length := ⟨_, rfl⟩
    have HSn : Hid (∀ w, Calls Try.prog 11 #[.int .i64 (N : Int)] w fun e w' => e = .returned (.int .i64 ((u + 4 + N : Nat) : Int)) ∧ w' = w) := fun w => by rw [hul, hU]; exact size_any N hN w
    have HUL : Hid (U.length = u) := hul.symm
    have hu' : u ≤ 10 := by omega
    clear hU hul hu h3 n1 n2

    go_enter Try.func3, Try.ntmps3
    go_wp2_with fail
    refine (alive_any _).mono ?_
    rintro e w1 ⟨rfl, hb1⟩
    have P1 : Piece.ok w1 ⟨a, k, ca, zs⟩ := hp.below hb1 (Nat.le_refl _)
    have Q1 : Piece.ok w1 ⟨b, m, d, rs⟩ := hq.below hb1 (Nat.le_refl _)
    go_wp2_with fail
    refine (fput_any a b k m ca d zs rs w1 P1 Q1 (by omega) (by omega)).mono ?_
    rintro e w2 ⟨v2, rfl, ho2, hb2⟩
    have hbw : Below w.heap.size w w2 := hb1.trans (hb2.mono hb1.size)
    rw [← HX.out] at ho2
    obtain ⟨a2, c2, rfl, hc2, hnil2, hbs2⟩ := ho2.slice
    rw [hXl] at hbs2
    rw [hXl]
    clear ho2 P1 Q1 hb1 hb2 hc2 hnil2
    go_wp2_with fail
    refine (HU.out _).mono ?_
    rintro e w3 ⟨v3, rfl, ho3, hb3⟩
    obtain ⟨a3, c3, rfl, _, _, _⟩ := ho3.slice
    rw [HUL.out]
    have hbs2' := hbs2.below hb3 (Nat.le_refl _)
    replace hbw : Below w.heap.size w w3 := hbw.trans (hb3.mono hbw.size)
    clear ho3 hbs2 hb3
    have hz := hbw.size
    have P3 : Bs w3 a k zs := hp.2.1.below hbw (Nat.le_refl _)
    have Q3 : Piece.ok w3 ⟨b, m, d, rs⟩ := hq.below hbw (Nat.le_refl _)
    go_wp2_with (at_builtin; refine wpList_append_bytes _ rfl _ _ rfl w3.heap.size Try.underlying22 info_u8 _ [] rfl (own_new0 w3 _ (Nat.le_refl _)) a k ca zs rfl hp.1 (P3.below ((Below.refl _ _).alloc (Nat.le_refl _) _) (Nat.le_refl _)) ?d1d ?d2d ?_)
    case d1d => first | omega | (simp; omega)
    all_goals (try (case d2d => simp))
    intro v4 w4 ho4 hg4
    have hb4 : Below w3.heap.size w3 w4 := ((Below.refl _ _).alloc (Nat.le_refl _) _).trans (Below.of_grown (own_new0 w3 _ (Nat.le_refl _)) hg4 (by simp))
    try rw [List.nil_append] at ho4
    have hz4 := hb4.size
    have Q4 : Piece.ok w4 ⟨b, m, d, rs⟩ := Q3.below hb4 (Nat.le_refl _)
    clear hg4
    go_wp2_with fail
    refine (refFrame_any b m d rs w4 Q4 (by omega)).mono ?_
    rintro e w5 ⟨v5, rfl, ho5, hb5⟩
    obtain ⟨a5, c5, rfl, hc5, hnil5, hbs5⟩ := ho5.slice
    rw [hFl] at hbs5 hnil5
    rw [hFl]
    have ho4' := ho4.below hb5 (Nat.le_refl _)
    have hb5' : Below w3.heap.size w3 w5 := hb4.trans (hb5.mono hz4)
    have hz5 := hb5'.size
    obtain ⟨F, hF⟩ : ∃ F, F = frameOf rs := ⟨_, rfl⟩
    rw [← hF] at hbs5 HX
    clear ho5 hc5 ho4 hF hb5
    go_wp2_with (at_builtin; refine wpList_append_bytes _ rfl _ _ rfl w3.heap.size Try.underlying22 info_u8 _ zs rfl ho4' a5 f c5 F rfl hnil5 hbs5 ?d1d hz5 ?_)
    case d1d => rw [hzl]; omega
    intro v6 w6 ho6 hg6
    have hb6 : Below w3.heap.size w3 w6 := hb5'.trans (Below.of_grown ho4' hg6 hz5)
    rw [← HX.out] at ho6
    obtain ⟨a6, c6, rfl, hc6, hnil6, hbs6⟩ := ho6.slice
    rw [hXl] at hbs6
    rw [hXl]
    have hbx := hbs2'.below hb6 (Nat.le_refl _)
    clear hg6 ho6 hc6 hnil6
    go_wp2_with fail
    refine (same_below a2 a6 (k + f) (k + f) c2 c6 X X w6 hbx hbs6 (by omega) (by omega)).mono ?_
    rintro e w7 ⟨rfl, hb7⟩
    rw [show decide (X = X) = true from by simp]
    have hbe : Below w.heap.size w w7 := hbw.trans ((hb6.trans (hb7.mono hb6.size)).mono hz)
    go_wp2_with fail
    refine (HSn.out _).mono ?_
    rintro e w8 ⟨rfl, rfl⟩
    go_wp2_with fail
    refine (HSm.out _).mono ?_
    rintro e w9 ⟨rfl, rfl⟩
    go_wp2
    go_ret
    exact ⟨ret_bool (by rw [beq_iff_eq]; omega), hbe⟩
  · have HSn : Hid (∀ w, Calls Try.prog 11 #[.int .i64 n] w fun e w' => e = .returned (.int .i64 0) ∧ w' = w) := fun w => size_no n (by omega) w
    rcases Int.lt_or_le n 0 with h4 | h4
    · have t3 : ¬ (0 : Int) ≤ n := by omega
      clear h3

      go_enter Try.func3, Try.ntmps3
      go_wp2_with fail
      refine (alive_any _).mono ?_
      rintro e w1 ⟨rfl, hb1⟩
      have P1 : Piece.ok w1 ⟨a, k, ca, zs⟩ := hp.below hb1 (Nat.le_refl _)
      have Q1 : Piece.ok w1 ⟨b, m, d, rs⟩ := hq.below hb1 (Nat.le_refl _)
      go_wp2_with fail
      refine (fput_any a b k m ca d zs rs w1 P1 Q1 (by omega) (by omega)).mono ?_
      rintro e w2 ⟨v2, rfl, ho2, hb2⟩
      have hbw : Below w.heap.size w w2 := hb1.trans (hb2.mono hb1.size)
      rw [← HX.out] at ho2
      obtain ⟨a2, c2, rfl, hc2, hnil2, hbs2⟩ := ho2.slice
      rw [hXl] at hbs2
      rw [hXl]
      clear ho2 P1 Q1 hb1 hb2 hc2 hnil2
      obtain ⟨w3, hw3⟩ : ∃ w3, w3 = w2 := ⟨_, rfl⟩
      subst hw3
      have hbs2' := hbs2
      clear hbs2
      have hz := hbw.size
      have P3 : Bs w3 a k zs := hp.2.1.below hbw (Nat.le_refl _)
      have Q3 : Piece.ok w3 ⟨b, m, d, rs⟩ := hq.below hbw (Nat.le_refl _)
      go_wp2_with (at_builtin; refine wpList_append_bytes _ rfl _ _ rfl w3.heap.size Try.underlying22 info_u8 _ [] rfl (own_new0 w3 _ (Nat.le_refl _)) a k ca zs rfl hp.1 (P3.below ((Below.refl _ _).alloc (Nat.le_refl _) _) (Nat.le_refl _)) ?d1e ?d2e ?_)
      case d1e => first | omega | (simp; omega)
      all_goals (try (case d2e => simp))
      intro v4 w4 ho4 hg4
      have hb4 : Below w3.heap.size w3 w4 := ((Below.refl _ _).alloc (Nat.le_refl _) _).trans (Below.of_grown (own_new0 w3 _ (Nat.le_refl _)) hg4 (by simp))
      try rw [List.nil_append] at ho4
      have hz4 := hb4.size
      have Q4 : Piece.ok w4 ⟨b, m, d, rs⟩ := Q3.below hb4 (Nat.le_refl _)
      clear hg4
      go_wp2_with fail
      refine (refFrame_any b m d rs w4 Q4 (by omega)).mono ?_
      rintro e w5 ⟨v5, rfl, ho5, hb5⟩
      obtain ⟨a5, c5, rfl, hc5, hnil5, hbs5⟩ := ho5.slice
      rw [hFl] at hbs5 hnil5
      rw [hFl]
      have ho4' := ho4.below hb5 (Nat.le_refl _)
      have hb5' : Below w3.heap.size w3 w5 := hb4.trans (hb5.mono hz4)
      have hz5 := hb5'.size
      obtain ⟨F, hF⟩ : ∃ F, F = frameOf rs := ⟨_, rfl⟩
      rw [← hF] at hbs5 HX
      clear ho5 hc5 ho4 hF hb5
      go_wp2_with (at_builtin; refine wpList_append_bytes _ rfl _ _ rfl w3.heap.size Try.underlying22 info_u8 _ zs rfl ho4' a5 f c5 F rfl hnil5 hbs5 ?d1e hz5 ?_)
      case d1e => rw [hzl]; omega
      intro v6 w6 ho6 hg6
      have hb6 : Below w3.heap.size w3 w6 := hb5'.trans (Below.of_grown ho4' hg6 hz5)
      rw [← HX.out] at ho6
      obtain ⟨a6, c6, rfl, hc6, hnil6, hbs6⟩ := ho6.slice
      rw [hXl] at hbs6
      rw [hXl]
      have hbx := hbs2'.below hb6 (Nat.le_refl _)
      clear hg6 ho6 hc6 hnil6
      go_wp2_with fail
      refine (same_below a2 a6 (k + f) (k + f) c2 c6 X X w6 hbx hbs6 (by omega) (by omega)).mono ?_
      rintro e w7 ⟨rfl, hb7⟩
      rw [show decide (X = X) = true from by simp]
      have hbe : Below w.heap.size w w7 := hbw.trans ((hb6.trans (hb7.mono hb6.size)).mono hz)
      go_wp2_with fail
      refine (HSn.out _).mono ?_
      rintro e w8 ⟨rfl, rfl⟩
      go_wp2_with fail
      refine (HSm.out _).mono ?_
      rintro e w9 ⟨rfl, rfl⟩
      go_wp2
      go_ret
      exact ⟨ret_bool (by rw [beq_iff_eq]; omega), hbe⟩
    · have t3 : (0 : Int) ≤ n := h4
      have t4 : decide (n ≤ 65536) = false := by simp; omega
      have t5 : 65536 < n := by omega
      clear h3

      go_enter Try.func3, Try.ntmps3
      go_wp2_with fail
      refine (alive_any _).mono ?_
      rintro e w1 ⟨rfl, hb1⟩
      have P1 : Piece.ok w1 ⟨a, k, ca, zs⟩ := hp.below hb1 (Nat.le_refl _)
      have Q1 : Piece.ok w1 ⟨b, m, d, rs⟩ := hq.below hb1 (Nat.le_refl _)
      go_wp2_with fail
      refine (fput_any a b k m ca d zs rs w1 P1 Q1 (by omega) (by omega)).mono ?_
      rintro e w2 ⟨v2, rfl, ho2, hb2⟩
      have hbw : Below w.heap.size w w2 := hb1.trans (hb2.mono hb1.size)
      rw [← HX.out] at ho2
      obtain ⟨a2, c2, rfl, hc2, hnil2, hbs2⟩ := ho2.slice
      rw [hXl] at hbs2
      rw [hXl]
      clear ho2 P1 Q1 hb1 hb2 hc2 hnil2
      obtain ⟨w3, hw3⟩ : ∃ w3, w3 = w2 := ⟨_, rfl⟩
      subst hw3
      have hbs2' := hbs2
      clear hbs2
      have hz := hbw.size
      have P3 : Bs w3 a k zs := hp.2.1.below hbw (Nat.le_refl _)
      have Q3 : Piece.ok w3 ⟨b, m, d, rs⟩ := hq.below hbw (Nat.le_refl _)
      go_wp2_with (at_builtin; refine wpList_append_bytes _ rfl _ _ rfl w3.heap.size Try.underlying22 info_u8 _ [] rfl (own_new0 w3 _ (Nat.le_refl _)) a k ca zs rfl hp.1 (P3.below ((Below.refl _ _).alloc (Nat.le_refl _) _) (Nat.le_refl _)) ?d1f ?d2f ?_)
      case d1f => first | omega | (simp; omega)
      all_goals (try (case d2f => simp))
      intro v4 w4 ho4 hg4
      have hb4 : Below w3.heap.size w3 w4 := ((Below.refl _ _).alloc (Nat.le_refl _) _).trans (Below.of_grown (own_new0 w3 _ (Nat.le_refl _)) hg4 (by simp))
      try rw [List.nil_append] at ho4
      have hz4 := hb4.size
      have Q4 : Piece.ok w4 ⟨b, m, d, rs⟩ := Q3.below hb4 (Nat.le_refl _)
      clear hg4
      go_wp2_with fail
      refine (refFrame_any b m d rs w4 Q4 (by omega)).mono ?_
      rintro e w5 ⟨v5, rfl, ho5, hb5⟩
      obtain ⟨a5, c5, rfl, hc5, hnil5, hbs5⟩ := ho5.slice
      rw [hFl] at hbs5 hnil5
      rw [hFl]
      have ho4' := ho4.below hb5 (Nat.le_refl _)
      have hb5' : Below w3.heap.size w3 w5 := hb4.trans (hb5.mono hz4)
      have hz5 := hb5'.size
      obtain ⟨F, hF⟩ : ∃ F, F = frameOf rs := ⟨_, rfl⟩
      rw [← hF] at hbs5 HX
      clear ho5 hc5 ho4 hF hb5
      go_wp2_with (at_builtin; refine wpList_append_bytes _ rfl _ _ rfl w3.heap.size Try.underlying22 info_u8 _ zs rfl ho4' a5 f c5 F rfl hnil5 hbs5 ?d1f hz5 ?_)
      case d1f => rw [hzl]; omega
      intro v6 w6 ho6 hg6
      have hb6 : Below w3.heap.size w3 w6 := hb5'.trans (Below.of_grown ho4' hg6 hz5)
      rw [← HX.out] at ho6
      obtain ⟨a6, c6, rfl, hc6, hnil6, hbs6⟩ := ho6.slice
      rw [hXl] at hbs6
      rw [hXl]
      have hbx := hbs2'.below hb6 (Nat.le_refl _)
      clear hg6 ho6 hc6 hnil6
      go_wp2_with fail
      refine (same_below a2 a6 (k + f) (k + f) c2 c6 X X w6 hbx hbs6 (by omega) (by omega)).mono ?_
      rintro e w7 ⟨rfl, hb7⟩
      rw [show decide (X = X) = true from by simp]
      have hbe : Below w.heap.size w w7 := hbw.trans ((hb6.trans (hb7.mono hb6.size)).mono hz)
      go_wp2_with fail
      refine (HSn.out _).mono ?_
      rintro e w8 ⟨rfl, rfl⟩
      go_wp2_with fail
      refine (HSm.out _).mono ?_
      rintro e w9 ⟨rfl, rfl⟩
      go_wp2
      go_ret
      exact ⟨ret_bool (by rw [beq_iff_eq]; omega), hbe⟩
end Go.Proofs.Ytfcckekinlobjaa
