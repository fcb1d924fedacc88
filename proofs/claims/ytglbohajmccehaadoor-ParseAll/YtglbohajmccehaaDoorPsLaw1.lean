/-
  ParseAll.
-/
import Derived.Test.YtglbohajmccehaaDoorMg5
import Derived.Test.YtglbohajmccehaaDoorMg8
-- @STR@
namespace Go.Proofs.YtglbohajmccehaaDoor
open Go.RowKit
set_option linter.unusedVariables false
set_option linter.unusedSimpArgs false
set_option maxRecDepth 100000

theorem prF_err1 {n : Nat} {src : By} {r : Sg × List (List Lt) × Int} (h : prF n src = some r) : 0 ≤ r.2.2 ∧ r.2.2 ≤ 9 := by
  unfold prF at h
  split at h
  · cases h; exact ⟨by decide, by decide⟩
  · split at h
    · cases h
    · split at h
      · split at h
        · cases h
        · split at h
          · cases h; exact ⟨Int.le_refl _, by show (0 : Int) ≤ 9; decide⟩
          · cases h; exact ⟨by show (0 : Int) ≤ 7; decide, by show (7 : Int) ≤ 9; decide⟩
      · cases h; exact ⟨by decide, by decide⟩
theorem prF_sig1 {n : Nat} {src : By} {r : Sg × List (List Lt) × Int} (h : prF n src = some r) : r.1.ar.length = r.1.nm.length ∧ r.1.pr.length = r.1.nm.length ∧ r.1.nm.length ≤ 1000000 := by
  by_cases he : r.2.2 = 0
  · obtain ⟨_, cs, q, _, _, h3, h4, h5, _⟩ := prF_ok h he
    obtain ⟨p1, _⟩ := mnF_p cs nm0 [] q nm0_p (fun c hc => by cases hc) h3 h4
    obtain ⟨q', k1, _, k3, _⟩ := mnF_rl cs nm0 nm0 [] [] q Rl.zero h3 h4
    rw [h5]
    exact ⟨p1.la, p1.lp, by have := k3.few; exact Nat.le_trans this (by decide)⟩
  · obtain ⟨_, e⟩ := prF_nil h he
    rw [e]
    exact ⟨rfl, rfl, Nat.zero_le _⟩
theorem prF_len1 {n : Nat} {src : By} {r : Sg × List (List Lt) × Int} (h : prF n src = some r) : r.2.1.length ≤ 64 := by
  by_cases he : r.2.2 = 0
  · obtain ⟨_, cs, q, _, h2, h3, h4, _, h6⟩ := prF_ok h he
    obtain ⟨d, d1, d2⟩ := mnF_acc cs nm0 [] q h3 h4
    rw [h6, d1, List.nil_append, d2]
    exact h2
  · rw [(prF_nil h he).1]
    exact Nat.zero_le _
end Go.Proofs.YtglbohajmccehaaDoor

