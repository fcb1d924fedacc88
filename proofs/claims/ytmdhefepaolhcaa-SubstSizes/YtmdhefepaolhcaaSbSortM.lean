/-
  What Norm does: the first binding of each number, by numbers, without those to themselves.
-/
import Derived.Test.YtmdhefepaolhcaaSbNorm2
namespace Go.Proofs.Ytmdhefepaolhcaa
open Go.RowKit
set_option linter.unusedVariables false
set_option linter.unusedSimpArgs false

theorem ltB (x y : Bd) : ltC cmpB x y = decide (x.v < y.v) := by
  unfold ltC cmpB cmpZ
  by_cases h : x.v < y.v
  · simp [h]
  · by_cases h2 : x.v > y.v
    · simp [h, h2]
    · simp [h, h2]

theorem get_mid {α : Type} (A : List α) (x : α) (B : List α) : (A ++ x :: B)[A.length]? = some x := by simp
/-- Where an element comes to lie. -/
theorem sink_spec (lt : Bd → Bd → Bool) (x : Bd) (B : List Bd) : ∀ (n : Nat) (A : List Bd), A.length = n → ∃ A1 A2, A = A1 ++ A2 ∧ sink lt 0 A.length (A ++ x :: B) = A1 ++ x :: (A2 ++ B) ∧ (∀ y ∈ A2, lt x y = true) ∧ ∀ y, A1.getLast? = some y → lt x y = false := by
  intro n
  induction n generalizing x B with
  | zero =>
    intro A hA
    have : A = [] := List.eq_nil_of_length_eq_zero hA
    subst this
    exact ⟨[], [], rfl, rfl, by simp, by simp⟩
  | succ n ih =>
    intro A hA
    obtain ⟨A', y, rfl⟩ : ∃ A' y, A = A' ++ [y] := ⟨A.dropLast, A.getLast (by intro h; rw [h] at hA; simp at hA), (List.dropLast_concat_getLast _).symm⟩
    have hl : A'.length = n := by simp at hA; omega
    have hx : (A' ++ [y] ++ x :: B)[A'.length + 1]? = some x := by
      have := get_mid (A' ++ [y]) x B
      rwa [List.length_append, List.length_singleton] at this
    have hy : (A' ++ [y] ++ x :: B)[A'.length]? = some y := by
      rw [List.append_assoc]; exact get_mid A' y (x :: B)
    rw [List.length_append, List.length_singleton]
    cases h : lt x y with
    | false =>
      refine ⟨A' ++ [y], [], by simp, ?_, by simp, fun z hz => ?_⟩
      · rw [sink_no lt 0 hx hy h]; simp
      · rw [List.getLast?_append] at hz
        simp at hz
        subst hz; exact h
    | true =>
      rw [sink_yes lt 0 hx hy (by omega) h]
      have hsw : ((A' ++ [y] ++ x :: B).set (A'.length + 1) y).set A'.length x = A' ++ x :: (y :: B) := by
        rw [List.append_assoc, List.set_append_right _ _ (by omega), show A'.length + 1 - A'.length = 1 by omega, List.set_append_right _ _ (by simp)]
        simp
      rw [hsw]
      obtain ⟨A1, A2, e1, e2, e3, e4⟩ := ih x (y :: B) A' hl
      refine ⟨A1, A2 ++ [y], by rw [e1]; simp, by rw [e2]; simp, fun z hz => ?_, e4⟩
      rcases List.mem_append.1 hz with hz | hz
      · exact e3 z hz
      · rw [List.mem_singleton.1 hz]; exact h

def SrtB (l : List Bd) : Prop := l.Pairwise fun x y => x.v ≤ y.v
theorem srt_ins {A1 A2 : List Bd} {x : Bd} (h : SrtB (A1 ++ A2)) (h2 : ∀ y ∈ A2, x.v < y.v) (h1 : ∀ y, A1.getLast? = some y → ¬ x.v < y.v) : SrtB (A1 ++ x :: A2) := by
  unfold SrtB at h ⊢
  rw [List.pairwise_append] at h ⊢
  refine ⟨h.1, List.pairwise_cons.2 ⟨fun y hy => Int.le_of_lt (h2 y hy), h.2.1⟩, fun a ha b hb => ?_⟩
  rcases List.mem_cons.1 hb with rfl | hb
  · -- a is at most the last
    obtain ⟨A', z, rfl⟩ : ∃ A' z, A1 = A' ++ [z] := ⟨A1.dropLast, A1.getLast (List.ne_nil_of_mem ha), (List.dropLast_concat_getLast _).symm⟩
    have hz := h1 z (by simp)
    rcases List.mem_append.1 ha with ha | ha
    · have := (List.pairwise_append.1 h.1).2.2 a ha z (by simp)
      omega
    · rw [List.mem_singleton.1 ha]; omega
  · exact h.2.2 a ha b hb
theorem filt_ins {A1 A2 : List Bd} {x : Bd} (h2 : ∀ y ∈ A2, x.v < y.v) (v : Int) : (A1 ++ x :: A2).filter (fun b => decide (b.v = v)) = (A1 ++ A2 ++ [x]).filter (fun b => decide (b.v = v)) := by
  simp only [List.filter_append, List.filter_cons, List.filter_nil, List.append_assoc]
  by_cases h : x.v = v
  · have : A2.filter (fun b => decide (b.v = v)) = [] := by
      rw [List.filter_eq_nil_iff]
      intro y hy hv
      have := h2 y hy
      simp at hv
      omega
    rw [this]; simp [h]
  · simp [h]
theorem isortN_spec : ∀ (n : Nat) (A B : List Bd), SrtB A → n ≤ B.length → ∃ A', isortN (ltC cmpB) 0 n A.length (A ++ B) = A' ++ B.drop n ∧ SrtB A' ∧ A'.length = A.length + n ∧ ∀ v, A'.filter (fun b => decide (b.v = v)) = (A ++ B.take n).filter (fun b => decide (b.v = v))
  | 0, A, B, hA, _ => ⟨A, by simp [isortN], hA, rfl, fun v => by simp⟩
  | n + 1, A, [], hA, hn => by simp at hn
  | n + 1, A, x :: B, hA, hn => by
    obtain ⟨A1, A2, e1, e2, e3, e4⟩ := sink_spec (ltC cmpB) x B A.length A rfl
    have h2 : ∀ y ∈ A2, x.v < y.v := fun y hy => by have := e3 y hy; rw [ltB] at this; simpa using this
    have h1 : ∀ y, A1.getLast? = some y → ¬ x.v < y.v := fun y hy => by have := e4 y hy; rw [ltB] at this; simpa using this
    have hs : SrtB (A1 ++ x :: A2) := srt_ins (by rw [← e1]; exact hA) h2 h1
    obtain ⟨A', f1, f2, f3, f4⟩ := isortN_spec n (A1 ++ x :: A2) B hs (by simpa using hn)
    have hl : (A1 ++ x :: A2).length = A.length + 1 := by rw [e1]; simp; omega
    refine ⟨A', ?_, f2, by rw [f3, hl]; omega, fun v => ?_⟩
    · rw [isortN, e2, show A1 ++ x :: (A2 ++ B) = (A1 ++ x :: A2) ++ B by simp, ← hl, f1]; rfl
    · rw [f4 v, List.filter_append, filt_ins h2 v, ← e1, List.take_succ_cons, ← List.filter_append, List.append_assoc]
      rfl
theorem sortF_spec (L : List Bd) : SrtB (sortF L) ∧ ∀ v, (sortF L).filter (fun b => decide (b.v = v)) = L.filter (fun b => decide (b.v = v)) := by
  cases L with
  | nil => exact ⟨List.Pairwise.nil, fun v => rfl⟩
  | cons x l =>
    obtain ⟨A', f1, f2, f3, f4⟩ := isortN_spec l.length [x] l (List.pairwise_singleton _ _) (Nat.le_refl _)
    have e : sortF (x :: l) = A' := by
      unfold sortF
      rw [List.length_cons, Nat.add_sub_cancel]
      have := f1
      rw [List.drop_length, List.append_nil] at this
      exact this
    rw [e]
    exact ⟨f2, fun v => by rw [f4 v, List.take_length]; rfl⟩

theorem findB_filter : ∀ (L : List Bd) (v : Int), findB L v = (L.filter (fun b => decide (b.v = v))).head?.map Bd.t
  | [], _ => rfl
  | b :: L, v => by
    rw [findB]
    by_cases h : b.v = v
    · simp [h]
    · rw [if_neg h, findB_filter L v]; simp [h]
theorem findB_sort (L : List Bd) (v : Int) : findB (sortF L) v = findB L v := by rw [findB_filter, findB_filter, (sortF_spec L).2]
theorem findB_snoc (L : List Bd) (x : Bd) (v : Int) : findB (L ++ [x]) v = (findB L v).or (if x.v = v then some x.t else none) := by
  induction L with
  | nil => simp only [List.nil_append, findB]; split <;> rfl
  | cons b L ih =>
    rw [List.cons_append, findB, findB]
    split
    · rfl
    · exact ih
theorem findB_some_of_mem {L : List Bd} {x : Bd} (h : x ∈ L) : ∃ t, findB L x.v = some t := by
  induction L with
  | nil => cases h
  | cons b L ih =>
    rw [findB]
    split
    · exact ⟨_, rfl⟩
    · rename_i hne
      rcases List.mem_cons.1 h with rfl | h
      · exact absurd rfl hne
      · exact ih h
/-- What CompactFunc leaves of a row in order. -/
theorem cpt_spec {S : List Bd} (hS : SrtB S) : ∀ (m : Nat), m ≤ S.length → (∀ v, findB (cptN sameV S m) v = findB (S.take m) v) ∧ (cptN sameV S m).Pairwise (fun x y => x.v < y.v) ∧ ∀ (k : Nat) (y : Bd), m = k + 1 → S[k]? = some y → ∀ x ∈ cptN sameV S m, x.v ≤ y.v
  | 0, _ => ⟨fun v => rfl, List.Pairwise.nil, fun k y h => by omega⟩
  | 1, h => by
    cases S with
    | nil => simp at h
    | cons x l =>
      rw [cptN_one]
      exact ⟨fun v => rfl, List.pairwise_singleton _ _, fun k y hk hy z hz => by
        have : k = 0 := by omega
        subst this
        simp at hy hz
        subst hy; subst hz; exact Int.le_refl _⟩
  | m + 2, h => by
    obtain ⟨ih1, ih2, ih3⟩ := cpt_spec hS (m + 1) (by omega)
    obtain ⟨x, hx⟩ : ∃ x, S[m + 1]? = some x := ⟨S[m + 1], List.getElem?_eq_getElem (by omega)⟩
    obtain ⟨y, hy⟩ : ∃ y, S[m]? = some y := ⟨S[m]'(by omega), List.getElem?_eq_getElem (by omega)⟩
    have hle : y.v ≤ x.v := by
      have := List.pairwise_iff_getElem.1 hS m (m + 1) (by omega) (by omega) (by omega)
      rw [List.getElem?_eq_getElem (by omega)] at hx hy
      rw [← Option.some.inj hx, ← Option.some.inj hy]
      exact this
    have htk := take_snoc hx
    cases hq : sameV x y with
    | true =>
      have hv : x.v = y.v := by simpa [sameV] using hq
      rw [cptN_yes hx hy hq]
      refine ⟨fun v => ?_, ih2, fun k z hk hz w hw => ?_⟩
      · rw [ih1 v, htk, findB_snoc]
        by_cases e : x.v = v
        · obtain ⟨t, ht⟩ := findB_some_of_mem (L := S.take (m + 1)) (x := y) (List.mem_of_getElem? (i := m) (by rw [List.getElem?_take, if_pos (by omega)]; exact hy))
          rw [← e, hv, ht]; rfl
        · rw [if_neg e]; simp
      · have : k = m + 1 := by omega
        subst this
        rw [hx] at hz
        cases hz
        rw [hv]
        exact ih3 m y rfl hy w hw
    | false =>
      have hv : x.v ≠ y.v := by simpa [sameV] using hq
      rw [cptN_no hx hy hq]
      refine ⟨fun v => by rw [findB_snoc, ih1 v, htk, findB_snoc], ?_, fun k z hk hz w hw => ?_⟩
      · rw [List.pairwise_append]
        refine ⟨ih2, List.pairwise_singleton _ _, fun a ha b hb => ?_⟩
        rw [List.mem_singleton.1 hb]
        have := ih3 m y rfl hy a ha
        omega
      · have : k = m + 1 := by omega
        subst this
        rw [hx] at hz
        cases hz
        rcases List.mem_append.1 hw with hw | hw
        · have := ih3 m y rfl hy w hw; omega
        · rw [List.mem_singleton.1 hw]; exact Int.le_refl _
theorem firstsF_spec (L : List Bd) : (∀ v, findB (firstsF L) v = findB L v) ∧ (firstsF L).Pairwise (fun x y => x.v < y.v) := by
  obtain ⟨h1, h2, _⟩ := cpt_spec (sortF_spec L).1 (sortF L).length (Nat.le_refl _)
  refine ⟨fun v => ?_, h2⟩
  have := h1 v
  rw [List.take_length, findB_sort] at this
  exact this

theorem findB_map {L : List Bd} (v : Int) : findB (L.map Bd.strip) v = (findB L v).map Tm.strip := by
  induction L with
  | nil => rfl
  | cons b L ih =>
    rw [List.map_cons, findB, findB]
    show (if b.v = v then _ else _) = _
    split
    · rfl
    · exact ih
theorem findB_idle {L : List Bd} (h : L.Pairwise (fun x y => x.v < y.v)) (v : Int) : findB (L.filter fun b => !idleB b) v = match findB L v with | some t => if idleB ⟨v, t⟩ then none else some t | none => none := by
  induction L with
  | nil => rfl
  | cons b L ih =>
    rw [List.pairwise_cons] at h
    rw [List.filter_cons]
    by_cases hv : b.v = v
    · have hno : ∀ c ∈ L, c.v ≠ v := fun c hc => by have := h.1 c hc; omega
      have hb : (⟨v, b.t⟩ : Bd) = b := by rw [← hv]
      rw [findB, if_pos hv]
      simp only
      rw [hb]
      cases hi : idleB b with
      | true =>
        simp only [Bool.not_true, Bool.false_eq_true, if_false, if_true]
        exact findB_none fun c hc => hno c (List.mem_filter.1 hc).1
      | false =>
        simp only [Bool.not_false, if_true, Bool.false_eq_true, if_false]
        rw [findB, if_pos hv]
    · rw [findB, if_neg hv]
      split
      · rw [findB, if_neg hv]; exact ih h.2
      · exact ih h.2
theorem findB_norm (L : List Bd) (v : Int) : findB (normF L) v = match findB L v with | some t => if idleB ⟨v, t⟩ then none else some t.strip | none => none := by
  unfold normF
  rw [findB_map, findB_idle (firstsF_spec L).2, (firstsF_spec L).1]
  cases findB L v with
  | none => rfl
  | some t => simp only; split <;> rfl
theorem normF_srt (L : List Bd) : (normF L).Pairwise (fun x y => x.v < y.v) := by
  unfold normF
  rw [List.pairwise_map]
  exact ((firstsF_spec L).2.filter _).imp (fun h => h)
theorem strip_of_var {t : Tm} (h : t.f < 0) : t.strip = ⟨t.f, []⟩ := by
  rw [Tm.strip_eq]
  have : t.ps = [] := by unfold Tm.ps; rw [if_pos h]
  rw [this]; rfl
theorem img_norm (L : List Bd) {v : Int} (hv : 0 ≤ v) : (imgB (normF L) v).strip = (imgB L v).strip := by
  unfold imgB
  rw [findB_norm]
  cases findB L v with
  | none => rfl
  | some t =>
    simp only
    split
    · rename_i hi
      unfold idleB at hi
      simp only [Bool.and_eq_true, decide_eq_true_eq] at hi
      obtain ⟨h1, h2⟩ := hi
      show (varT v).strip = t.strip
      have hvn : (varT v).f < 0 := by show -1 - v < 0; omega
      rw [strip_of_var h1, strip_of_var hvn]
      show (⟨-1 - v, []⟩ : Tm) = ⟨t.f, []⟩
      congr 1; omega
    · exact Tm.strip_strip t
end Go.Proofs.Ytmdhefepaolhcaa
