/-
  What the document's own functions (Same, Uint, Int, Text) return.
-/
import Derived.Test.YtaajmhajeecciaaCodePutMore
import Derived.Deep.QuietTactic
import Derived.BigQuiet
namespace Go.Proofs.Ytaajmhajeecciaa
open Go.RowKit
set_option linter.unusedVariables false

theorem take_step {xs ys : List Int} {k : Nat} (hx : k < xs.length) (hy : k < ys.length) (h : xs.take k = ys.take k) (e : xs.getD k 0 = ys.getD k 0) : xs.take (k + 1) = ys.take (k + 1) := by
  rw [List.take_succ_eq_append_getElem hx, List.take_succ_eq_append_getElem hy, h]
  simp [hx, hy] at e
  rw [e]

theorem drewN_add (w : World) (a b : Nat) : (w.drewN a).drewN b = w.drewN (a + b) := by simp [World.drewN, Nat.add_assoc]

theorem bool_yes {p : Prop} [Decidable p] (h : p) : Ending.returned (.bool true) = .returned (.bool (decide p)) := by simp [h]
theorem bool_no {p : Prop} [Decidable p] (h : ¬ p) : Ending.returned (.bool false) = .returned (.bool (decide p)) := by simp [h]

set_option maxRecDepth 100000 in
set_option maxHeartbeats 400000 in
theorem same_any (a b : Option Addr) (m n ca cb : Nat) (xs ys : List Int) (w : World) (ha : Bs w a m xs) (hb : Bs w b n ys) (hm : m ≤ 140737488355328) (hn : n ≤ 140737488355328) :
    Calls Try.prog 11 #[.slice a m ca, .slice b n cb] w fun e w' => e = .returned (.bool (decide (xs = ys))) ∧ ∃ nq, w' = w.drewN nq := by
  obtain ⟨a1, a2, a3⟩ := ha
  obtain ⟨b1, b2, b3⟩ := hb
  by_cases hmn : m = n
  · subst hmn
    have hne : ((m : Int) != (m : Int)) = false := by simp
    have HA : Hid (xs.length = m) := a1
    have HB : Hid (ys.length = m) := b1
    clear a1 b1
    go_enter Try.func11, Try.ntmps11
    go_wp2
    go_loopw [5] (fun i wr => ∃ k nq : Nat, i = .int .i64 (k : Int) ∧ k ≤ m ∧ xs.take k = ys.take k ∧ wr = w.drewN nq) (fun i _ => m - (intOf i).toNat)
    case atStart => exact ⟨0, 0, rfl, by omega, rfl, rfl⟩
    case round =>
      obtain ⟨k, nq, rfl, hk, heq, rfl⟩ := hrel
      have HE : Hid (xs.take k = ys.take k) := heq
      clear heq
      by_cases hlt : k < m
      · rcases a3 with a3 | ⟨ba, oa, rfl, hba, hca⟩
        · omega
        rcases b3 with b3 | ⟨bb, ob, rfl, hbb, hcb⟩
        · omega
        obtain ⟨X, hX⟩ : ∃ X, X = xs.getD k 0 := ⟨_, rfl⟩
        obtain ⟨Y, hY⟩ : ∃ Y, Y = ys.getD k 0 := ⟨_, rfl⟩
        have c1 : w.cell? ⟨ba, oa + k, none⟩ = some (.int .u8 X) := by rw [hX]; exact hca k hlt
        have c2 : w.cell? ⟨bb, ob + k, none⟩ = some (.int .u8 Y) := by rw [hY]; exact hcb k hlt
        have HX : Hid (X = xs.getD k 0) := hX
        have HY : Hid (Y = ys.getD k 0) := hY
        clear hca hcb hX hY
        by_cases hxy : X = Y
        · have hne2 : (X != Y) = false := by simpa using hxy
          have HXY : Hid (X = Y) := hxy
          clear hxy
          go_wp2
          go_quiet (fail)
          go_wp2
          go_roundw
          case rel => exact ⟨k + 1, _, by go_num, by omega, take_step (by rw [HA.out]; exact hlt) (by rw [HB.out]; exact hlt) HE.out (by rw [← HX.out, ← HY.out]; exact HXY.out), rfl⟩
          case measure => simp [intOf]; omega
        · have hne2 : (X != Y) = true := by simpa using hxy
          have HXY : Hid (¬ X = Y) := hxy
          clear hxy
          go_wp2
          go_quiet (fail)
          go_wp2
          go_ret
          exact ⟨bool_no (fun h => HXY.out (by rw [HX.out, HY.out, h])), _, drewN_add _ _ _⟩
      · go_wp2
        go_ret
        refine ⟨bool_yes ?_, _, rfl⟩
        have := HE.out
        rwa [List.take_of_length_le (by rw [HA.out]; omega), List.take_of_length_le (by rw [HB.out]; omega)] at this
  · have hne : ((m : Int) != (n : Int)) = true := by simp; omega
    have HA : Hid (¬ xs = ys) := fun h => hmn (by rw [← a1, ← b1, h])
    clear a1 b1 hmn
    go_enter Try.func11, Try.ntmps11
    go_wp2
    go_ret
    exact ⟨bool_no HA.out, 0, rfl⟩

/-- The same, with no more said of the world than that nothing has turned. -/
theorem same_below (a b : Option Addr) (m n ca cb : Nat) (xs ys : List Int) (w : World) (ha : Bs w a m xs) (hb : Bs w b n ys) (hm : m ≤ 140737488355328) (hn : n ≤ 140737488355328) :
    Calls Try.prog 11 #[.slice a m ca, .slice b n cb] w fun e w' => e = .returned (.bool (decide (xs = ys))) ∧ Below w.heap.size w w' :=
  (same_any a b m n ca cb xs ys w ha hb hm hn).mono fun e w' ⟨h, nq, h'⟩ => ⟨h, by rw [h']; exact below_drewN (Below.refl _ _) nq⟩

set_option maxRecDepth 100000 in
set_option maxHeartbeats 400000 in
theorem refUint_any : ∀ (f n : Nat) (hf : n < 128 ^ (f + 1)) (hn : n < 2 ^ 64) (w : World),
    Calls Try.prog 12 #[.int .u64 (n : Int)] w fun e w' => ∃ v, e = .returned v ∧ Own w' w.heap.size v (ubytes n) ∧ Below w.heap.size w w' := by
  intro f
  induction f with
  | zero =>
    intro n hf hn w
    have hlt : n < 128 := by omega
    have H : Hid (ubytes n = [(n : Int)]) := ubytes_small hlt
    clear hf hn
    go_enter Try.func12, Try.ntmps12
    go_wp2
    go_ret
    exact ⟨_, rfl, by rw [H.out]; exact own_new1 w _ (Nat.le_refl _) _ (by omega), (Below.refl _ _).alloc (Nat.le_refl _) _⟩
  | succ f ih =>
    intro n hf hn w
    by_cases hlt : n < 128
    · have H : Hid (ubytes n = [(n : Int)]) := ubytes_small hlt
      clear hf hn ih
      go_enter Try.func12, Try.ntmps12
      go_wp2
      go_ret
      exact ⟨_, rfl, by rw [H.out]; exact own_new1 w _ (Nat.le_refl _) _ (by omega), (Below.refl _ _).alloc (Nat.le_refl _) _⟩
    · have IH : Hid (∀ w, Calls Try.prog 12 #[.int .u64 ((n / 128 : Nat) : Int)] w fun e w' => ∃ v, e = .returned v ∧ Own w' w.heap.size v (ubytes (n / 128)) ∧ Below w.heap.size w w') :=
        ih (n / 128) (by rw [Nat.pow_succ] at hf; exact Nat.div_lt_of_lt_mul (by omega)) (by omega)
      have H : Hid (ubytes n = ((128 + n % 128 : Nat) : Int) :: ubytes (n / 128)) := ubytes_step (by omega) hn
      clear ih hf
      go_enter Try.func12, Try.ntmps12
      go_wp2_with fail
      rw [show (n : Int) / 128 = ((n / 128 : Nat) : Int) from by omega, show 128 + (n : Int) % 128 = ((128 + n % 128 : Nat) : Int) from by omega]
      refine (IH.out _).mono ?_
      rintro e w1 ⟨v1, rfl, ho1, hb1⟩
      obtain ⟨a1, c1, rfl, hc1, hnil1, hbs1⟩ := ho1.slice
      have hl := (ubytes_le (n / 128)).2
      have hown : Own w1 w.heap.size (.slice (some ⟨w.heap.size, 0, none⟩) 1 1) [((128 + n % 128 : Nat) : Int)] := (own_new1 w _ (Nat.le_refl _) _ (by omega)).below hb1 (Nat.le_refl _)
      have hbel : Below w.heap.size w w1 := ((Below.refl _ _).alloc (Nat.le_refl _) _).trans (hb1.mono (by simp))
      have hsz := hbel.size
      clear ho1 hb1
      go_wp2_with (at_builtin; refine wpList_append_bytes _ rfl _ _ rfl w.heap.size Try.underlying22 info_u8 _ [((128 + n % 128 : Nat) : Int)] rfl hown a1 _ c1 (ubytes (n / 128)) rfl hnil1 hbs1 ?d1 hsz ?_)
      case d1 => simp; omega
      intro v2 w2 ho2 hg2
      have hb2 := hbel.trans (Below.of_grown hown hg2 hsz)
      have ho3 : Own w2 w.heap.size v2 (ubytes n) := by rw [H.out]; exact ho2
      clear hg2 ho2
      go_wp2
      go_ret
      exact ⟨_, rfl, ho3, hb2⟩

theorem refUint (n : Nat) (hn : n < 2 ^ 64) (w : World) :
    Calls Try.prog 12 #[.int .u64 (n : Int)] w fun e w' => ∃ v, e = .returned v ∧ Own w' w.heap.size v (ubytes n) ∧ Below w.heap.size w w' :=
  refUint_any 9 n (by omega) hn w

set_option maxRecDepth 100000 in
set_option maxHeartbeats 400000 in
theorem refInt (n : Int) (h1 : -9223372036854775808 ≤ n) (h2 : n < 9223372036854775808) (w : World) :
    Calls Try.prog 13 #[.int .i64 n] w fun e w' => ∃ v, e = .returned v ∧ Own w' w.heap.size v (ubytes (zz n)) ∧ Below w.heap.size w w' := by
  by_cases h : 0 ≤ n
  · have hz : (zz n : Int) = 2 * n := by unfold zz; rw [if_pos h]; omega
    have Hz : Hid ((zz n : Int) = 2 * n) := hz
    clear hz
    go_enter Try.func13, Try.ntmps13
    go_wp2_with fail
    rw [show 2 * n = (zz n : Int) from by have := Hz.out; omega]
    refine (refUint (zz n) (zz_lt n h1 h2) _).mono ?_
    rintro e w1 ⟨v1, rfl, ho1, hb1⟩
    go_wp2
    go_ret
    exact ⟨_, rfl, ho1, hb1⟩
  · have hz : (zz n : Int) = -2 * n - 1 := by unfold zz; rw [if_neg h]; omega
    have Hz : Hid ((zz n : Int) = -2 * n - 1) := hz
    clear hz
    go_enter Try.func13, Try.ntmps13
    go_wp2_with fail
    rw [show 2 * (-1 - n) + 1 = (zz n : Int) from by have := Hz.out; omega]
    refine (refUint (zz n) (zz_lt n h1 h2) _).mono ?_
    rintro e w1 ⟨v1, rfl, ho1, hb1⟩
    go_wp2
    go_ret
    exact ⟨_, rfl, ho1, hb1⟩

set_option maxRecDepth 100000 in
set_option maxHeartbeats 400000 in
theorem refText (s : ByteArray) (hs : s.size ≤ 35184372088832) (w : World) :
    Calls Try.prog 14 #[.string s] w fun e w' => ∃ v, e = .returned v ∧ Own w' w.heap.size v (ubytes s.size ++ sb s) ∧ Below w.heap.size w w' := by
  have hle := ubytes_le s.size
  go_enter Try.func14, Try.ntmps14
  go_wp2_with fail
  refine (refUint s.size (by omega) _).mono ?_
  rintro e w1 ⟨v1, rfl, ho1, hb1⟩
  have hs1 := hb1.size
  go_wp2_with (at_builtin; refine wpList_append_str _ rfl _ _ rfl _ Try.underlying22 Try.underlying9 info_u8 _ _ rfl ho1 s rfl ?d1 ?d2 ?_)
  case d1 => omega
  case d2 => omega
  intro v3 w3 ho3 hg3
  have hb3 := hb1.trans (Below.of_grown ho1 hg3 (by omega))
  clear hg3 ho1
  go_wp2
  go_ret
  exact ⟨_, rfl, ho3, hb3⟩
end Go.Proofs.Ytaajmhajeecciaa
