/-
  Terms as they are read: a head and parts; what is in a term, in order; a term without its variables' parts.
-/
import Derived.Test.YtmdhefepaolhcaaCodeMem
namespace Go.Proofs.Ytmdhefepaolhcaa
set_option linter.unusedVariables false

structure Tm where
  f : Int
  l : List Tm

/-- The parts that count. -/
def Tm.ps (t : Tm) : List Tm := if t.f < 0 then [] else t.l

theorem Tm.ind {P : Tm → Prop} (h : ∀ f l, (∀ t ∈ l, P t) → P (.mk f l)) : ∀ t, P t := by
  intro t
  induction hn : SizeOf.sizeOf t using Nat.strongRecOn generalizing t with
  | ind n ih =>
    cases t with
    | mk f l =>
      refine h f l fun s hs => ih (SizeOf.sizeOf s) ?_ s rfl
      have := List.sizeOf_lt_of_mem hs
      simp at hn
      omega

theorem Tm.ps_mem {t s : Tm} (h : s ∈ t.ps) : s ∈ t.l ∧ 0 ≤ t.f := by
  unfold Tm.ps at h
  split at h
  · cases h
  · exact ⟨h, by omega⟩
theorem Tm.ps_of_var {t : Tm} (h : t.f < 0) : t.ps = [] := if_pos h
theorem Tm.ps_of_sym {t : Tm} (h : 0 ≤ t.f) : t.ps = t.l := if_neg (by omega)

/-- Induction over the parts that count. -/
theorem Tm.indp {P : Tm → Prop} (h : ∀ t, (∀ s ∈ t.ps, P s) → P t) : ∀ t, P t :=
  Tm.ind fun f l ih => h _ fun s hs => ih s (Tm.ps_mem hs).1

/-- A term and all that is in it, in the order of places. -/
def Tm.flat : Tm → List Tm
  | ⟨f, l⟩ => ⟨f, l⟩ :: (if f < 0 then [] else (l.map Tm.flat).flatten)

theorem Tm.flat_eq (t : Tm) : t.flat = t :: t.ps.flatMap Tm.flat := by
  cases t with
  | mk f l =>
    rw [Tm.flat, ← List.flatMap_def]
    unfold Tm.ps
    simp only
    by_cases h : f < 0 <;> simp [h]

def Tm.size (t : Tm) : Nat := t.flat.length
theorem Tm.size_eq (t : Tm) : t.size = 1 + (t.ps.flatMap Tm.flat).length := by
  unfold Tm.size
  rw [Tm.flat_eq, List.length_cons]
  omega

theorem flatMap_len_mem {α β : Type} (g : α → List β) {l : List α} {x : α} (h : x ∈ l) : (g x).length ≤ (l.flatMap g).length := by
  induction l with
  | nil => cases h
  | cons y ys ih =>
    rw [List.flatMap_cons, List.length_append]
    rcases List.mem_cons.1 h with rfl | h
    · omega
    · have := ih h; omega
theorem Tm.size_pos (t : Tm) : 1 ≤ t.size := by rw [Tm.size_eq]; omega
theorem Tm.size_part {t s : Tm} (h : s ∈ t.ps) : s.size < t.size := by
  have := flatMap_len_mem Tm.flat h
  rw [t.size_eq]
  unfold Tm.size
  omega
theorem Tm.len_ps (t : Tm) : t.ps.length < t.size := by
  rw [t.size_eq]
  have : ∀ l : List Tm, l.length ≤ (l.flatMap Tm.flat).length := by
    intro l
    induction l with
    | nil => simp
    | cons y ys ih =>
      have := y.size_pos
      unfold Tm.size at this
      rw [List.flatMap_cons, List.length_append, List.length_cons]
      omega
  have := this t.ps
  omega

/-- Variables without parts. -/
def Tm.strip : Tm → Tm
  | ⟨f, l⟩ => ⟨f, if f < 0 then [] else l.map Tm.strip⟩
theorem Tm.strip_eq (t : Tm) : t.strip = .mk t.f (t.ps.map Tm.strip) := by
  cases t with
  | mk f l =>
    rw [Tm.strip]
    unfold Tm.ps
    simp only
    by_cases h : f < 0 <;> simp [h]
theorem Tm.strip_f (t : Tm) : t.strip.f = t.f := by rw [Tm.strip_eq]
theorem Tm.strip_l (t : Tm) : t.strip.l = t.ps.map Tm.strip := by rw [Tm.strip_eq]
theorem Tm.strip_ps (t : Tm) : t.strip.ps = t.ps.map Tm.strip := by
  unfold Tm.ps
  rw [Tm.strip_f, Tm.strip_l]
  split
  · rfl
  · unfold Tm.ps; rw [if_neg (by assumption)]
theorem Tm.strip_strip (t : Tm) : t.strip.strip = t.strip := by
  induction t using Tm.indp with
  | h t ih =>
    rw [Tm.strip_eq t.strip, Tm.strip_f, Tm.strip_ps, List.map_map, Tm.strip_eq t]
    congr 1
    exact List.map_congr_left fun s hs => ih s hs
theorem Tm.strip_size (t : Tm) : t.strip.size = t.size := by
  induction t using Tm.indp with
  | h t ih =>
    rw [Tm.size_eq, Tm.size_eq, Tm.strip_ps]
    congr 1
    have : ∀ l : List Tm, (∀ s ∈ l, s.strip.size = s.size) → ((l.map Tm.strip).flatMap Tm.flat).length = (l.flatMap Tm.flat).length := by
      intro l hl
      induction l with
      | nil => rfl
      | cons y ys ih2 =>
        have h1 := hl y (by simp)
        unfold Tm.size at h1
        rw [List.map_cons, List.flatMap_cons, List.flatMap_cons, List.length_append, List.length_append, h1, ih2 (fun s hs => hl s (List.mem_cons_of_mem _ hs))]
    exact this _ ih
end Go.Proofs.Ytmdhefepaolhcaa
