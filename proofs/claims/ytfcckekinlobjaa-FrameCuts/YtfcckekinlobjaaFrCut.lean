/-
  Plain facts: what is read of a row of frames that was cut somewhere, and of one in which a byte of a record was turned.
-/
import Derived.Test.YtfcckekinlobjaaFrMath
namespace Go.Proofs.Ytfcckekinlobjaa
open Go.RowKit
set_option linter.unusedVariables false

/-- How long the first j frames are. -/
def lenTo (l : List (List Int)) (j : Nat) : Nat := (framesOf (l.take j)).length

theorem lenTo_zero (l : List (List Int)) : lenTo l 0 = 0 := by simp [lenTo, framesOf]
theorem lenTo_step {l : List (List Int)} {j : Nat} {r : List Int} (h : l[j]? = some r) : lenTo l (j + 1) = lenTo l j + (frameOf r).length := by
  unfold lenTo
  rw [List.take_add_one, h, Option.toList_some, framesOf_append, List.length_append]
  simp [framesOf]
theorem lenTo_all (l : List (List Int)) : lenTo l l.length = (framesOf l).length := by unfold lenTo; rw [List.take_length]
theorem lenTo_le (l : List (List Int)) (j : Nat) : lenTo l j ≤ (framesOf l).length := by
  unfold lenTo
  have : framesOf l = framesOf (l.take j) ++ framesOf (l.drop j) := by rw [← framesOf_append, List.take_append_drop]
  rw [this, List.length_append]; omega

theorem good_take {l : List (List Int)} (h : GoodL l) (n : Nat) : GoodL (l.take n) := fun r hr => h r (List.mem_of_mem_take hr)
theorem good_drop {l : List (List Int)} (h : GoodL l) (n : Nat) : GoodL (l.drop n) := fun r hr => h r (List.mem_of_mem_drop hr)

theorem cut_row {l : List (List Int)} (h : GoodL l) (k n : Nat) (hn : n ≤ l.length) (h1 : lenTo l n ≤ k) (h2 : n = l.length ∨ k < lenTo l (n + 1)) : allOf ((framesOf l).take k) 0 = ends 0 (l.take n) := by
  have e : framesOf l = framesOf (l.take n) ++ framesOf (l.drop n) := by rw [← framesOf_append, List.take_append_drop]
  have e2 : (framesOf l).take k = framesOf (l.take n) ++ (framesOf (l.drop n)).take (k - lenTo l n) := by
    rw [e, List.take_append, List.take_of_length_le (by exact h1)]; rfl
  rw [e2]
  refine allOf_stop (good_take h n) _ (fun z hz => framesOf_wf (good_drop h n) z (List.mem_of_mem_take hz)) ?_
  by_cases hl : n = l.length
  · rw [List.drop_of_length_le (by omega)]
    simp [framesOf, getF_nil]
  · have hlt : n < l.length := by omega
    have hk : k < lenTo l (n + 1) := by omega
    have hg : l[n]? = some (l[n]'hlt) := List.getElem?_eq_getElem hlt
    rw [lenTo_step hg] at hk
    rw [List.drop_eq_getElem_cons hlt, framesOf, List.take_append_of_le_length (by omega)]
    exact getF_cut (h _ (List.getElem_mem hlt)).2 (by omega)

theorem turn_row {l : List (List Int)} (h : GoodL l) (i : Nat) (r : List Int) (hr : l[i]? = some r) (q : Nat) (hq : q < r.length) (t : Nat) (ht : t ≠ 0) (ht2 : t < 256) (y : Int)
    (hy : y.toNat = ((framesOf l).getD (lenTo l (i + 1) - 1 - q) 0).toNat ^^^ t) (hw : 0 ≤ y ∧ y ≤ 255) :
    allOf ((framesOf l).set (lenTo l (i + 1) - 1 - q) y) 0 = ends 0 (l.take i) := by
  have hil : i < l.length := (List.getElem?_eq_some_iff.1 hr).1
  have hri : l[i]'hil = r := (List.getElem?_eq_some_iff.1 hr).2
  have hgr := h r (by rw [← hri]; exact List.getElem_mem hil)
  obtain ⟨u, hu⟩ : ∃ u, u = ubytes r.length := ⟨_, rfl⟩
  obtain ⟨s, hs⟩ : ∃ s, s = wbytes (crcOf (u ++ r)) := ⟨_, rfl⟩
  obtain ⟨A, hA⟩ : ∃ A, A = framesOf (l.take i) := ⟨_, rfl⟩
  obtain ⟨Q, hQ⟩ : ∃ Q, Q = framesOf (l.drop (i + 1)) := ⟨_, rfl⟩
  have hsl : s.length = 4 := by rw [hs]; rfl
  have hAl : lenTo l i = A.length := by rw [hA]; rfl
  have e : framesOf l = A ++ (u ++ (s ++ (r ++ Q))) := by
    have h1 : framesOf l = framesOf (l.take i) ++ framesOf (l.drop i) := by rw [← framesOf_append, List.take_append_drop]
    rw [h1, List.drop_eq_getElem_cons hil, hri, framesOf, ← hA, ← hQ]
    unfold frameOf
    rw [← hu, ← hs, List.append_assoc, List.append_assoc]
  have hp : lenTo l (i + 1) - 1 - q = A.length + (u.length + (s.length + (r.length - 1 - q))) := by
    rw [lenTo_step hr, hAl, frame_len, ← hu, hsl]; omega
  obtain ⟨j, hj⟩ : ∃ j, j = r.length - 1 - q := ⟨_, rfl⟩
  have hjr : j < r.length := by omega
  rw [hp, ← hj] at hy ⊢
  rw [e] at hy ⊢
  have hset : (A ++ (u ++ (s ++ (r ++ Q)))).set (A.length + (u.length + (s.length + j))) y = A ++ (u ++ (s ++ (r.set j y ++ Q))) := by
    rw [List.set_append, if_neg (by omega), Nat.add_sub_cancel_left, List.set_append, if_neg (by omega), Nat.add_sub_cancel_left, List.set_append, if_neg (by omega), Nat.add_sub_cancel_left, List.set_append, if_pos hjr]
  have hget : (A ++ (u ++ (s ++ (r ++ Q)))).getD (A.length + (u.length + (s.length + j))) 0 = r.getD j 0 := by
    rw [List.getD_eq_getElem?_getD, List.getElem?_append_right (by omega), Nat.add_sub_cancel_left, List.getElem?_append_right (by omega), Nat.add_sub_cancel_left, List.getElem?_append_right (by omega), Nat.add_sub_cancel_left, List.getElem?_append_left hjr, List.getD_eq_getElem?_getD]
  rw [hget] at hy
  rw [hset, hA]
  have hwr : Wf (r.set j y) := fun z hz => (List.mem_or_eq_of_mem_set hz).elim (hgr.1 z) (fun e => e ▸ hw)
  refine allOf_stop (good_take h i) _ ?_ ?_
  · rw [hu, hs]
    exact wf_app (ubytes_wf (by omega)) (wf_app (wbytes_wf _) (wf_app hwr (by rw [hQ]; exact framesOf_wf (good_drop h _))))
  · rw [hs, hu]
    exact getF_turned hgr.1 hgr.2 hjr t ht ht2 y hy Q

/-- The place behind the last of the first n. -/
theorem endOf_take (l : List (List Int)) (n : Nat) : endOf (ends 0 (l.take n)) = lenTo l n := endOf_ends0 _
end Go.Proofs.Ytfcckekinlobjaa
