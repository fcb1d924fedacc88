/-
  Places: what stands there, and what is put there.
-/
import Derived.Test.YtffecopfikbbbaaTmPlC
namespace Go.Proofs.Ytffecopfikbbbaa
set_option linter.unusedVariables false
set_option linter.unusedSimpArgs false

theorem size_parts {t : Tm} (h : ¬ t.f < 0) : t.size = 1 + (t.l.map Tm.size).sum := by
  rw [Tm.size_eq, Tm.ps_of_sym (by omega), List.length_flatMap]
  rfl
theorem mem_placesL : ∀ {l : List Tm} {k : Nat} {p : List Int}, p ∈ Tm.placesL l k → ∃ i s q, l[i]? = some s ∧ q ∈ s.places ∧ p = ((k + i : Nat) : Int) :: q
  | [], k, p, h => by rw [placesL_nil] at h; cases h
  | t :: ts, k, p, h => by
    rw [placesL_cons] at h
    rcases List.mem_append.1 h with h | h
    · obtain ⟨q, hq, rfl⟩ := List.mem_map.1 h
      exact ⟨0, t, q, rfl, hq, rfl⟩
    · obtain ⟨i, s, q, h1, h2, h3⟩ := mem_placesL h
      exact ⟨i + 1, s, q, by simpa using h1, h2, by rw [h3]; congr 2; omega⟩
theorem places_at (t : Tm) : ∀ p ∈ t.places, (∃ s, atP p t = some s) ∧ p.length < t.size := by
  induction t using Tm.indp with
  | h t ih =>
    intro p hp
    rw [Tm.places_eq] at hp
    rcases List.mem_cons.1 hp with rfl | hp
    · exact ⟨⟨t, rfl⟩, by rw [Tm.size_eq]; simp; omega⟩
    · obtain ⟨i, s, q, h1, h2, rfl⟩ := mem_placesL hp
      obtain ⟨⟨x, hx⟩, hl⟩ := ih s (List.mem_of_getElem? h1) q h2
      have hpa : t.pa ((0 + i : Nat) : Int) = some s := by
        unfold Tm.pa
        rw [if_pos (by omega), Int.toNat_natCast, Nat.zero_add, h1]
      refine ⟨⟨x, by rw [atP, hpa]; exact hx⟩, ?_⟩
      have h3 := Tm.size_eq t
      have h4 := flatMap_len_mem Tm.flat (List.mem_of_getElem? h1)
      have h5 : s.size = s.flat.length := rfl
      rw [List.length_cons]
      omega
theorem pa_strip (t : Tm) (n : Int) : t.strip.pa n = (t.pa n).map Tm.strip := by
  unfold Tm.pa
  split
  · rw [Tm.strip_ps, List.getElem?_map]
  · rfl
theorem atP_strip : ∀ (p : List Int) (t : Tm), atP p t.strip = (atP p t).map Tm.strip
  | [], t => rfl
  | k :: ks, t => by
    rw [atP, atP, pa_strip]
    cases t.pa k with
    | none => rfl
    | some s => exact atP_strip ks s
theorem pa_nat {t s : Tm} {n : Int} (h : t.pa n = some s) : ∃ m : Nat, n = m ∧ t.l[m]? = some s ∧ ¬ t.f < 0 := by
  have hf := pa_sym h
  unfold Tm.pa at h
  split at h
  · rename_i h0
    rw [Tm.ps_of_sym (by omega)] at h
    exact ⟨n.toNat, by omega, h, hf⟩
  · cases h
theorem split_at {l : List Tm} {m : Nat} {s : Tm} (h : l[m]? = some s) : l = l.take m ++ s :: l.drop (m + 1) ∧ m < l.length := by
  have hm : m < l.length := by
    rcases Nat.lt_or_ge m l.length with h1 | h1
    · exact h1
    · rw [List.getElem?_eq_none h1] at h; cases h
  refine ⟨?_, hm⟩
  have e : l[m] = s := by rw [List.getElem?_eq_getElem hm] at h; exact Option.some.inj h
  rw [← e, ← List.drop_eq_getElem_cons hm, List.take_append_drop]
theorem map_strip2 (l : List Tm) : (l.map Tm.strip).map Tm.strip = l.map Tm.strip := by
  rw [List.map_map]
  exact List.map_congr_left fun s _ => Tm.strip_strip s
/-- What is put is found there; put back it is as it was; sizes add up. -/
theorem putP_facts (u : Tm) (hu : u.rng) : ∀ (p : List Int) (t s : Tm), t.rng → atP p t = some s → ∃ z, putP u p t = some z ∧ z.rng ∧ atP p z = some u.strip ∧ putP s.strip p z = some t.strip ∧ z.size + s.size = t.size + u.size
  | [], t, s, hr, h => by
    cases h
    exact ⟨u.strip, rfl, Tm.strip_rng hu, rfl, by rw [putP, Tm.strip_strip], by rw [Tm.strip_size]; omega⟩
  | k :: ks, t, s, hr, h => by
    rw [atP] at h
    cases hp : t.pa k with
    | none => rw [hp] at h; cases h
    | some x =>
      rw [hp, Option.bind_some] at h
      obtain ⟨m, rfl, hx, hf⟩ := pa_nat hp
      obtain ⟨hsp, hm⟩ := split_at hx
      have hrl := (Tm.rng_iff _).1 hr
      obtain ⟨v, h1, h2, h3, h4, h5⟩ := putP_facts u hu ks x s (hrl.2 x (List.mem_of_getElem? hx)) h
      obtain ⟨A, hA⟩ : ∃ A, A = (t.l.take m).map Tm.strip := ⟨_, rfl⟩
      obtain ⟨B, hB⟩ : ∃ B, B = (t.l.drop (m + 1)).map Tm.strip := ⟨_, rfl⟩
      have hAl : A.length = m := by rw [hA, List.length_map, List.length_take]; omega
      have hpz : (Tm.mk t.f (A ++ v :: B)).pa (m : Int) = some v := by
        unfold Tm.pa
        rw [if_pos (by omega), Int.toNat_natCast, Tm.ps_of_sym (t := ⟨t.f, _⟩) (by show 0 ≤ t.f; omega)]
        show (A ++ v :: B)[m]? = some v
        rw [List.getElem?_append_right (by omega), hAl, Nat.sub_self]; rfl
      refine ⟨⟨t.f, A ++ v :: B⟩, ?_, ?_, ?_, ?_, ?_⟩
      · rw [putP, hp, Option.bind_some, h1, Int.toNat_natCast, ← hA, ← hB]; rfl
      · refine (Tm.rng_iff _).2 ⟨hrl.1, fun y hy => ?_⟩
        rcases List.mem_append.1 hy with hy | hy
        · rw [hA] at hy
          obtain ⟨z, hz, rfl⟩ := List.mem_map.1 hy
          exact Tm.strip_rng (hrl.2 z (List.mem_of_mem_take hz))
        · rcases List.mem_cons.1 hy with rfl | hy
          · exact h2
          · rw [hB] at hy
            obtain ⟨z, hz, rfl⟩ := List.mem_map.1 hy
            exact Tm.strip_rng (hrl.2 z (List.mem_of_mem_drop hz))
      · rw [atP, hpz, Option.bind_some, h3]
      · rw [putP, hpz, Option.bind_some, h4, Int.toNat_natCast, Option.map_some]
        show some (Tm.mk t.f (((A ++ v :: B).take m).map Tm.strip ++ x.strip :: ((A ++ v :: B).drop (m + 1)).map Tm.strip)) = _
        have e1 : (A ++ v :: B).take m = A := by rw [← hAl, List.take_left]
        have e2 : (A ++ v :: B).drop (m + 1) = B := by
          rw [← hAl, show A ++ v :: B = (A ++ [v]) ++ B by simp, show A.length + 1 = (A ++ [v]).length by simp, List.drop_left]
        rw [e1, e2, Tm.strip_eq t, Tm.ps_of_sym (by omega)]
        congr 2
        conv => rhs; rw [hsp]
        rw [List.map_append, List.map_cons, hA, hB, map_strip2, map_strip2]
      · have s1 := size_parts (t := ⟨t.f, A ++ v :: B⟩) hf
        have s2 := size_parts (t := t) hf
        simp only at s1
        have s3 : (t.l.map Tm.size).sum = ((t.l.take m).map Tm.size).sum + (x.size + ((t.l.drop (m + 1)).map Tm.size).sum) := by
          conv => lhs; rw [hsp]
          rw [List.map_append, List.map_cons, List.sum_append_nat, List.sum_cons]
        rw [List.map_append, List.map_cons, List.sum_append_nat, List.sum_cons] at s1
        have s4 : ∀ l : List Tm, (l.map Tm.strip).map Tm.size = l.map Tm.size := fun l => by
          rw [List.map_map]
          exact List.map_congr_left fun s _ => Tm.strip_size s
        have sA : (A.map Tm.size).sum = ((t.l.take m).map Tm.size).sum := by rw [hA, s4]
        have sB : (B.map Tm.size).sum = ((t.l.drop (m + 1)).map Tm.size).sum := by rw [hB, s4]
        omega
/-- All beside it is as it was. -/
theorem putP_beside (u : Tm) : ∀ (p q : List Int) (t z s : Tm), putP u p t = some z → ¬ p = q.take p.length → ¬ q = p.take q.length → atP q t = some s → ∃ y, atP q z = some y ∧ y.strip = s.strip
  | [], q, t, z, s, _, h, _, _ => absurd rfl h
  | k :: ks, [], t, z, s, _, _, h, _ => absurd rfl h
  | k :: ks, j :: js, t, z, s, hz, h1, h2, hs => by
    rw [putP] at hz
    cases hp : t.pa k with
    | none => rw [hp] at hz; cases hz
    | some x =>
      rw [hp, Option.bind_some] at hz
      cases hv : putP u ks x with
      | none => rw [hv] at hz; cases hz
      | some v =>
        rw [hv, Option.map_some] at hz
        obtain ⟨m, rfl, hx, hf⟩ := pa_nat hp
        obtain ⟨hsp, hm⟩ := split_at hx
        rw [Int.toNat_natCast] at hz
        obtain ⟨A, hA⟩ : ∃ A, A = (t.l.take m).map Tm.strip := ⟨_, rfl⟩
        obtain ⟨B, hB⟩ : ∃ B, B = (t.l.drop (m + 1)).map Tm.strip := ⟨_, rfl⟩
        rw [← hA, ← hB] at hz
        have hz := Option.some.inj hz
        subst hz
        have hAl : A.length = m := by rw [hA, List.length_map, List.length_take]; omega
        rw [atP] at hs
        cases hq : t.pa j with
        | none => rw [hq] at hs; cases hs
        | some x' =>
          rw [hq, Option.bind_some] at hs
          obtain ⟨i, rfl, hi, _⟩ := pa_nat hq
          have hpz : ∀ i' : Nat, (Tm.mk t.f (A ++ v :: B)).pa (i' : Int) = (A ++ v :: B)[i']? := fun i' => by
            unfold Tm.pa
            rw [if_pos (by omega), Int.toNat_natCast, Tm.ps_of_sym (t := ⟨t.f, _⟩) (by show 0 ≤ t.f; omega)]
          by_cases e : i = m
          · subst e
            rw [hx] at hi
            cases hi
            obtain ⟨y, g1, g2⟩ := putP_beside u ks js x v s hv (fun c => h1 (by rw [List.length_cons, List.take_succ_cons, ← c])) (fun c => h2 (by rw [List.length_cons, List.take_succ_cons, ← c])) hs
            refine ⟨y, ?_, g2⟩
            rw [atP, hpz, List.getElem?_append_right (by omega), hAl, Nat.sub_self]
            exact g1
          · have hget : (A ++ v :: B)[i]? = some x'.strip := by
              have hlt : i < t.l.length := (split_at hi).2
              rcases Nat.lt_or_ge i m with h | h
              · rw [List.getElem?_append_left (by omega), hA, List.getElem?_map, List.getElem?_take_of_lt h, hi]; rfl
              · rw [List.getElem?_append_right (by omega), hAl, show i - m = (i - m - 1) + 1 by omega, List.getElem?_cons_succ, hB, List.getElem?_map, List.getElem?_drop, show m + 1 + (i - m - 1) = i by omega, hi]; rfl
            refine ⟨s.strip, ?_, Tm.strip_strip s⟩
            rw [atP, hpz, hget, Option.bind_some, atP_strip, hs]; rfl
end Go.Proofs.Ytffecopfikbbbaa
