/-
  Bindings, and what they make of a term.
-/
import Derived.Test.YtmdhefepaolhcaaAbTm
namespace Go.Proofs.Ytmdhefepaolhcaa
set_option linter.unusedVariables false

structure Bd where
  v : Int
  t : Tm
noncomputable abbrev Bd.cw (b : Bd) : CV := .row [.i b.v, b.t.cw]
noncomputable def Bd.cv (b : Bd) : CV := b.cw
theorem Bd.size_all (l : List Bd) : ∀ c ∈ l.map Bd.cv, c.size = 3 := by
  intro c hc
  obtain ⟨b, _, rfl⟩ := List.mem_map.1 hc
  rfl
theorem Bd.map_at {l : List Bd} {i : Nat} {b : Bd} (h : l[i]? = some b) : (l.map Bd.cv)[i]? = some b.cw := by rw [List.getElem?_map, h]; rfl

/-- The first one of a number. -/
def findB : List Bd → Int → Option Tm
  | [], _ => none
  | b :: l, v => if b.v = v then some b.t else findB l v
theorem findB_none {l : List Bd} {v : Int} (h : ∀ b ∈ l, b.v ≠ v) : findB l v = none := by
  induction l with
  | nil => rfl
  | cons b l ih =>
    rw [findB, if_neg (h b (by simp)), ih (fun x hx => h x (List.mem_cons_of_mem _ hx))]
theorem findB_at {l : List Bd} {v : Int} {k : Nat} {b : Bd} (hb : l[k]? = some b) (hv : b.v = v) (h : ∀ i c, i < k → l[i]? = some c → c.v ≠ v) : findB l v = some b.t := by
  induction l generalizing k with
  | nil => simp at hb
  | cons x l ih =>
    cases k with
    | zero => simp at hb; subst hb; rw [findB, if_pos hv]
    | succ k =>
      rw [findB, if_neg (h 0 x (by omega) rfl)]
      exact ih (k := k) (by simpa using hb) (fun i c hi hc => h (i + 1) c (by omega) (by simpa using hc))
def varT (v : Int) : Tm := ⟨-1 - v, []⟩
def imgB (l : List Bd) (v : Int) : Tm := (findB l v).getD (varT v)
/-- Others in the place of variables. -/
def repT (img : Int → Tm) : Tm → Tm
  | ⟨f, l⟩ => if f < 0 then (img (-1 - f)).strip else ⟨f, l.map (repT img)⟩
theorem repT_var {img : Int → Tm} {t : Tm} (h : t.f < 0) : repT img t = (img (-1 - t.f)).strip := by cases t; rw [repT, if_pos h]
theorem repT_sym {img : Int → Tm} {t : Tm} (h : ¬ t.f < 0) : repT img t = ⟨t.f, t.l.map (repT img)⟩ := by cases t; rw [repT, if_neg h]
end Go.Proofs.Ytmdhefepaolhcaa
