/-
  The document's Less over trees.
-/
import Derived.Test.YtmdhefepaolhcaaRfSame
namespace Go.Proofs.Ytmdhefepaolhcaa
open Go.RowKit
set_option linter.unusedVariables false
set_option linter.unusedSimpArgs false
set_option maxRecDepth 100000

theorem cmp_same (a b : Tm) : sameT a b = true ↔ cmpT a b = 0 := by unfold sameT; rw [beq_iff_eq]
theorem cmpL_at : ∀ {l m : List Tm} {k : Nat} {x y : Tm}, l[k]? = some x → m[k]? = some y → (∀ i x y, i < k → l[i]? = some x → m[i]? = some y → cmpT x y = 0) → cmpT x y ≠ 0 → cmpL l m = cmpT x y
  | [], _, _, _, _, h, _, _, _ => by simp at h
  | _ :: _, [], _, _, _, _, h, _, _ => by simp at h
  | u :: l, v :: m, 0, x, y, h1, h2, _, hne => by
    simp at h1 h2; subst h1; subst h2
    rw [cmpL_cons, if_pos hne]
  | u :: l, v :: m, k + 1, x, y, h1, h2, h3, hne => by
    rw [cmpL_cons, if_neg (by rw [h3 0 u v (by omega) rfl rfl]; simp)]
    exact cmpL_at (k := k) (by simpa using h1) (by simpa using h2) (fun i x y hi a b => h3 (i + 1) x y (by omega) (by simpa using a) (by simpa using b)) hne
theorem cmp_fne {a b : Tm} (h : a.f ≠ b.f) : cmpT a b = cmpH a.f b.f := by rw [cmpT_eq, if_pos h]
theorem cmpH_val (x y : Int) : cmpH x y = if x < 0 ∧ y < 0 then cmpZ (-1 - x) (-1 - y) else cmpZ x y := by unfold cmpH; rfl
theorem cmpZ_lt (x y : Int) : cmpZ x y < 0 ↔ x < y := by
  unfold cmpZ
  split
  · omega
  · split <;> omega

-- 
end Go.Proofs.Ytmdhefepaolhcaa
