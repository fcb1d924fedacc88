/-
  What the document's own functions (Uint) return.
-/
import Derived.Test.YtfcckekinlobjaaCodePut
import Derived.Test.YtfcckekinlobjaaRefSame
import Derived.Deep.QuietTactic
import Derived.BigQuiet
namespace Go.Proofs.Ytfcckekinlobjaa
open Go.RowKit
set_option linter.unusedVariables false

set_option maxRecDepth 100000 in
set_option maxHeartbeats 400000 in
theorem refUint_any : ∀ (f n : Nat) (hf : n < 128 ^ (f + 1)) (hn : n < 2 ^ 64) (w : World),
    Calls Try.prog 8 #[.int .u64 (n : Int)] w fun e w' => ∃ v, e = .returned v ∧ Own w' w.heap.size v (ubytes n) ∧ Below w.heap.size w w' := by
  intro f
  induction f with
  | zero =>
    intro n hf hn w
    have hlt : n < 128 := by omega
    have H : Hid (ubytes n = [(n : Int)]) := ubytes_small hlt
    clear hf hn
    go_enter Try.func8, Try.ntmps8
    go_wp2
    go_ret
    exact ⟨_, rfl, by rw [H.out]; exact own_new1 w _ (Nat.le_refl _) _ (by omega), (Below.refl _ _).alloc (Nat.le_refl _) _⟩
  | succ f ih =>
    intro n hf hn w
    by_cases hlt : n < 128
    · have H : Hid (ubytes n = [(n : Int)]) := ubytes_small hlt
      clear hf hn ih
      go_enter Try.func8, Try.ntmps8
      go_wp2
      go_ret
      exact ⟨_, rfl, by rw [H.out]; exact own_new1 w _ (Nat.le_refl _) _ (by omega), (Below.refl _ _).alloc (Nat.le_refl _) _⟩
    · have IH : Hid (∀ w, Calls Try.prog 8 #[.int .u64 ((n / 128 : Nat) : Int)] w fun e w' => ∃ v, e = .returned v ∧ Own w' w.heap.size v (ubytes (n / 128)) ∧ Below w.heap.size w w') :=
        ih (n / 128) (by rw [Nat.pow_succ] at hf; exact Nat.div_lt_of_lt_mul (by omega)) (by omega)
      have H : Hid (ubytes n = ((128 + n % 128 : Nat) : Int) :: ubytes (n / 128)) := ubytes_step (by omega) hn
      clear ih hf
      go_enter Try.func8, Try.ntmps8
      go_wp2_with fail
      rw [show (n : Int) / 128 = ((n / 128 : Nat) : Int) from by omega, show 128 + (n : Int) % 128 = ((128 + n % 128 : Nat) : Int) from by omega]
      refine (IH.out _).mono ?_
      rintro e w1 ⟨v1, rfl, ho1, hb1⟩
      obtain ⟨a1, c1, rfl, hc1, hnil1, hbs1⟩ := ho1.slice
      have hl := (ubytes_le (n / 128)).2
      have hown : Own w1 w.heap.size (.slice (some ⟨w.heap.size, 0, none⟩) 1 1) [((128 + n % 128 : Nat) : Int)] := (own_new1 w _ (Nat.le_refl _) _ (by omega)).below hb1 (Nat.le_refl _)
      have hbel : Below w.heap.size w w1 := ((Below.refl _ _).alloc (Nat.le_refl _) _).trans (hb1.mono (by simp))
      have hsz := hbel.size
      clear ho1 hb1
      go_wp2_with (at_builtin; refine wpList_append_bytes _ rfl _ _ rfl w.heap.size Try.underlying22 info_u8 _ [((128 + n % 128 : Nat) : Int)] rfl hown a1 _ c1 (ubytes (n / 128)) rfl hnil1 hbs1 ?d1 hsz ?_)
      case d1 => simp; omega
      intro v2 w2 ho2 hg2
      have hb2 := hbel.trans (Below.of_grown hown hg2 hsz)
      have ho3 : Own w2 w.heap.size v2 (ubytes n) := by rw [H.out]; exact ho2
      clear hg2 ho2
      go_wp2
      go_ret
      exact ⟨_, rfl, ho3, hb2⟩

theorem refUint (n : Nat) (hn : n < 2 ^ 64) (w : World) :
    Calls Try.prog 8 #[.int .u64 (n : Int)] w fun e w' => ∃ v, e = .returned v ∧ Own w' w.heap.size v (ubytes n) ∧ Below w.heap.size w w' :=
  refUint_any 9 n (by omega) hn w

end Go.Proofs.Ytfcckekinlobjaa
