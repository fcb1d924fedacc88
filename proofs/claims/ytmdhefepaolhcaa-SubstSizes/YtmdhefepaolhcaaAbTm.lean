/-
  Terms as trees of cells.
-/
import Derived.Test.YtmdhefepaolhcaaAbCode
import Derived.Test.YtmdhefepaolhcaaTmMath
namespace Go.Proofs.Ytmdhefepaolhcaa
open Go.RowKit
set_option linter.unusedVariables false

noncomputable def Tm.cv (t : Tm) : CV := Tm.rec (motive_1 := fun _ => CV) (motive_2 := fun _ => List CV) (fun f _ ih => .row [.i f, .lst ih]) [] (fun _ _ a b => a :: b) t
noncomputable abbrev Tm.cw (t : Tm) : CV := .row [.i t.f, .lst (t.l.map Tm.cv)]
theorem Tm.cv_eq (t : Tm) : t.cv = t.cw := by
  cases t with
  | mk f l =>
    have hl : ∀ l : List Tm, Tm.rec_1 (motive_1 := fun _ => CV) (motive_2 := fun _ => List CV) (fun f _ ih => .row [.i f, .lst ih]) [] (fun _ _ a b => a :: b) l = l.map Tm.cv := by
      intro l
      induction l with
      | nil => rfl
      | cons c cs ih => rw [List.map_cons, ← ih]; rfl
    show CV.row [.i f, .lst _] = CV.row [.i f, .lst _]
    rw [← hl]
theorem Tm.size_cv (t : Tm) : t.cv.size = 2 := by rw [Tm.cv_eq]; rfl
theorem Tm.size_all (l : List Tm) : ∀ c ∈ l.map Tm.cv, c.size = 2 := by
  intro c hc
  obtain ⟨t, _, rfl⟩ := List.mem_map.1 hc
  exact t.size_cv
theorem Tm.map_at {l : List Tm} {i : Nat} {t : Tm} (h : l[i]? = some t) : (l.map Tm.cv)[i]? = some t.cw := by rw [List.getElem?_map, h, Option.map_some, Tm.cv_eq]
/-- No list in a term is too long. -/
def Tm.ok : Tm → Prop
  | ⟨f, l⟩ => l.length ≤ 10000000000 ∧ ∀ t ∈ l, Tm.ok t
theorem Tm.ok_iff (t : Tm) : t.ok ↔ t.l.length ≤ 10000000000 ∧ ∀ s ∈ t.l, s.ok := by cases t; rw [Tm.ok]

set_option maxHeartbeats 1000000 in
theorem ints_size (l : List Int) : ∀ c ∈ l.map CV.i, c.size = 1 := by
  intro c hc
  obtain ⟨z, _, rfl⟩ := List.mem_map.1 hc
  rfl
theorem ints_at {l : List Int} {i : Nat} {z : Int} (h : l[i]? = some z) : (l.map CV.i)[i]? = some (.i z) := by rw [List.getElem?_map, h]; rfl
end Go.Proofs.Ytmdhefepaolhcaa
