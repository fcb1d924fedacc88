/-
  What calls do to a disk that is up and not armed, told of its files alone.
-/
import Derived.Test.YtngkapddobgfaaaDiskAt
namespace Go.Proofs.Ytngkapddobgfaaa
open Go.RowKit Go.Maps
set_option linter.unusedVariables false

/-- The error of a deed on a disk that is up. -/
def wrongL (room : Nat) (L : List FileL) (a : ActL) : Int :=
  if badN a.name || (decide (a.kind = 3) && badN a.to) then 1
  else if a.kind = 0 then (if (getG L a.name).isSome then 6 else if 64 ≤ L.length then 4 else 0)
  else if a.kind = 2 ∧ (a.num < 0 ∨ ((getG L a.name).isSome = true ∧ ((bytesF L a.name).length : Int) < a.num)) then 1
  else if (getG L a.name).isSome = false then 5
  else if a.kind = 1 ∧ room < usedF L + a.b.length then 4 else 0
/-- The files behind it. -/
def stepL (room : Nat) (L : List FileL) (a : ActL) : List FileL := if wrongL room L a = 0 then doneF L a else L

def Idle (room : Nat) (st : St) : Prop := st.down = false ∧ st.armed = 0 ∧ st.room = room

theorem wrong_up {st : St} (h : st.down = false) (a : ActL) : wrongF st a = wrongL st.room (seenF st) a := by
  unfold wrongF wrongL
  rw [h]
  rfl
theorem seen_wait {st : St} {a : ActL} (h : st.armed ≠ 1) : seenF (waitF st a) = doneF (seenF st) a := by
  unfold waitF
  rw [if_neg h]
  simp [seenF, foldF, List.foldl_append]
theorem idle_do {room : Nat} {st : St} (h : Idle room st) (a : ActL) : Idle room (doS st a) ∧ seenF (doS st a) = stepL room (seenF st) a ∧ doE st a = wrongL room (seenF st) a ∧ (doS st a).deeds ≤ st.deeds + 1 ∧ (doS st a).waits.length ≤ st.waits.length + 1 ∧ st.deeds ≤ (doS st a).deeds := by
  obtain ⟨h1, h2, h3⟩ := h
  have hw := wrong_up h1 a
  rw [h3] at hw
  have ha : st.armed ≠ 1 := by omega
  unfold doS doE stepL
  rw [hw]
  by_cases h0 : wrongL room (seenF st) a = 0
  · rw [if_pos h0, if_pos h0, if_pos h0]
    refine ⟨?_, seen_wait ha, ?_, ?_, ?_, ?_⟩
    · unfold waitF; rw [if_neg ha]; exact ⟨h1, by simp only; omega, h3⟩
    · unfold countE; rw [if_neg ha, h0]
    · unfold waitF; rw [if_neg ha]; exact Nat.le_refl _
    · unfold waitF; rw [if_neg ha]; simp
    · unfold waitF; rw [if_neg ha]; exact Nat.le_succ _
  · rw [if_neg h0, if_neg h0, if_neg h0]
    exact ⟨⟨h1, h2, h3⟩, rfl, rfl, Nat.le_succ _, Nat.le_succ _, Nat.le_refl _⟩
theorem idle_new (room : Nat) : Idle room (newS room) := ⟨rfl, rfl, rfl⟩
theorem idle_read {room : Nat} {st : St} (h : Idle room st) (nm : List UInt8) : readE st nm = if badN nm then 1 else if (getG (seenF st) nm).isSome then 0 else 5 := by
  unfold readE
  rw [h.1]
  rfl
end Go.Proofs.Ytngkapddobgfaaa
