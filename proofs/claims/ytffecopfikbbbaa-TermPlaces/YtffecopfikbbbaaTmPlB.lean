/-
  slices.Concat of lists of terms, term.Places: their contracts over trees, by bridges.
-/
import Derived.Test.YtffecopfikbbbaaTmPlA
namespace Go.Proofs.Ytffecopfikbbbaa
open Go.RowKit
set_option linter.unusedVariables false
set_option linter.unusedSimpArgs false
set_option maxRecDepth 100000

theorem cs_of_at {U : Nat → Nat → Prop} {w : World} {a : Option Addr} {xs : List Value} (h : At U w a xs) : Cs w a xs := by
  rcases h with h | ⟨b, off, ha, hc⟩
  · exact .inl h
  · by_cases hz : xs = []
    · exact .inl hz
    · refine .inr ⟨b, off, ha, ?_, fun i hi => (hc i hi).2⟩
      have hpos : 0 < xs.length := List.length_pos_iff.2 hz
      have := (hc 0 hpos).2
      rw [List.getElem?_eq_getElem hpos] at this
      exact World.block_lt_of_cell? w _ this
theorem ownsRow_at {w : World} {base : Nat} {e : TypeId} {size : Nat} {v : Value} {n : Nat} {xs : List Value} (h : w.ownsRow base e size v n xs) :
    ∃ a c, v = .slice a n c ∧ n ≤ c ∧ c ≤ maxLen ∧ (a = none → n = 0 ∧ c = 0) ∧ At (fun b _ => base ≤ b) w a xs := by
  have ho := h
  obtain ⟨h1, h2⟩ := h
  rcases h2 with ⟨rfl, rfl⟩ | ⟨g, cap, cur, rfl, hb, hh, hn, hm, hs, ht⟩
  · exact ⟨none, 0, rfl, by omega, by simp, fun _ => ⟨rfl, rfl⟩, .inl (List.eq_nil_of_length_eq_zero (by omega))⟩
  · refine ⟨_, cap, rfl, hn, hm, (fun h => by cases h), .inr ⟨g, 0, rfl, fun i hi => ⟨hb, ?_⟩⟩⟩
    rw [show 0 + i = i by omega]
    exact ho.cellAt i (by omega)
theorem sq_rows {U : Nat → Nat → Prop} {w : World} : ∀ {l : List (List Tm)} {ys : List Value}, Sq ((l.map fun x => CV.lst (x.map Tm.cv)).map fun c => Rep U w c) ys →
    ∃ (A : Nat → Option Addr) (L C : Nat → Nat) (R : Nat → List Value), ∀ r x, l[r]? = some x → ys[r]? = some (.slice (A r) (L r) (C r)) ∧ L r = x.length ∧ (A r = none → L r = 0 ∧ C r = 0) ∧ At U w (A r) (R r) ∧ Sq ((x.map Tm.cv).map fun c => Rep U w c) (R r)
  | [], ys, h => ⟨fun _ => none, fun _ => 0, fun _ => 0, fun _ => [], fun r x hx => by simp at hx⟩
  | x :: l, ys, h => by
    obtain ⟨y1, y2, rfl, h1, h2⟩ := h
    obtain ⟨a, n, c, rfl, g1, g2, g3, g4, zs, g5, g6⟩ := rep_lst.1 h1
    obtain ⟨A, L, C, R, hR⟩ := sq_rows (l := l) h2
    refine ⟨fun r => match r with | 0 => a | r + 1 => A r, fun r => match r with | 0 => n | r + 1 => L r, fun r => match r with | 0 => c | r + 1 => C r, fun r => match r with | 0 => zs | r + 1 => R r, fun r y hy => ?_⟩
    cases r with
    | zero =>
      simp at hy
      subst hy
      exact ⟨rfl, by rw [g1, List.length_map], g4, g5, g6⟩
    | succ r =>
      simp at hy
      exact hR r y hy
theorem sq_joined {U : Nat → Nat → Prop} {w : World} {l : List (List Tm)} {L : Nat → Nat} {R : Nat → List Value} (h : ∀ r x, l[r]? = some x → L r = x.length ∧ Sq ((x.map Tm.cv).map fun c => Rep U w c) (R r)) :
    ∀ k, k ≤ l.length → Sq (((l.take k).flatten.map Tm.cv).map fun c => Rep U w c) (joinV R k) ∧ lenJ L k = (l.take k).flatten.length := by
  intro k
  induction k with
  | zero => intro _; exact ⟨rfl, rfl⟩
  | succ k ih =>
    intro hk
    obtain ⟨h1, h2⟩ := ih (by omega)
    obtain ⟨x, hx⟩ : ∃ x, l[k]? = some x := ⟨l[k], List.getElem?_eq_getElem (by omega)⟩
    obtain ⟨h3, h4⟩ := h k x hx
    rw [List.take_add_one, hx, List.flatten_append, joinV, lenJ, List.map_append, List.map_append, List.length_append, h2, h3]
    simp only [Option.toList_some, List.flatten_cons, List.flatten_nil, List.append_nil]
    exact ⟨sq_append h1 h4, trivial⟩
theorem concat_abs (W : World) (l : List (List Tm)) (hl : l.length ≤ 1000) (hs : l.flatten.length ≤ 1099511627776) : AFun Try.prog W 42 [.lst (l.map fun x => CV.lst (x.map Tm.cv))] (.val (.lst (l.flatten.map Tm.cv))) := by
  refine ⟨ent_of Try.func42 rfl rfl, .inl rfl, rfl, ?_⟩
  rintro U w vs hW ⟨u1, us1, rfl, h1, h3⟩
  have h3 : us1 = [] := h3
  subst h3
  obtain ⟨a, n, c, rfl, g1, g2, g3, g4, ys, g5, g6⟩ := vrep_lst.1 h1
  rw [List.length_map] at g1
  subst g1
  obtain ⟨A, L, C, R, hR⟩ := sq_rows g6
  obtain ⟨hj, hn⟩ := sq_joined (fun r x hx => ⟨(hR r x hx).2.1, (hR r x hx).2.2.2.2⟩) l.length (Nat.le_refl _)
  rw [List.take_length] at hj hn
  have hrw : Rw 2 w a l.length A L C R := by
    refine ⟨fun r hr => ?_, ?_⟩
    · obtain ⟨k1, k2, k3, k4, k5⟩ := hR r _ (List.getElem?_eq_getElem hr)
      refine ⟨k3, cs_of_at k4, ?_, rep_one_of k5⟩
      rw [sq_len (n := fun _ => 2) (fun c hc xs hx => by
        obtain ⟨t, _, rfl⟩ := List.mem_map.1 hc
        rw [hx.len]
        exact Tm.size_cv t) k5, k2]
      rw [List.map_const', List.sum_replicate_nat]
      simp
    · by_cases hz : l.length = 0
      · exact .inl hz
      · refine .inr ?_
        have hc := cs_of_at g5
        have hy0 := (hR 0 _ (List.getElem?_eq_getElem (by omega : 0 < l.length))).1
        rcases hc with hc | ⟨b, off, ha, hb, hc⟩
        · rw [hc] at hy0; simp at hy0
        · refine ⟨b, off, ha, hb, fun r hr => ?_⟩
          have hy := (hR r _ (List.getElem?_eq_getElem hr)).1
          have hlt : r < ys.length := by
            rcases Nat.lt_or_ge r ys.length with h | h
            · exact h
            · rw [List.getElem?_eq_none h] at hy; cases hy
          rw [hc r hlt, hy]
  refine (concatT_any a l.length c A L C R w hrw hl (by rw [hn]; exact hs)).mono ?_
  rintro e w' ⟨v, rfl, ho, hb⟩
  obtain ⟨a', c', rfl, k1, k2, k3, k4⟩ := ownsRow_at ho
  refine ⟨_, rfl, vrep_lst.2 ⟨a', _, c', rfl, by rw [hn, List.length_map], k1, k2, k3, _, k4.keep fun b o v h1 h2 => ⟨.inr h1, h2⟩, hj.keep fun b o v h1 h2 => ⟨.inl h1, ?_⟩⟩, hb⟩
  rw [hb.cell (World.block_lt_of_cell? w _ h2)]
  exact h2

theorem sq_prs {w : World} {V : Nat → Prop} : ∀ {xs : List Pr}, (∀ x ∈ xs, x.ok V w) → Sq (((xs.map Pr.p).map fun p => CV.lst (p.map CV.i)).map fun c => Rep (fun b _ => V b) w c) (xs.map Pr.v)
  | [], _ => rfl
  | x :: xs, h => by
    obtain ⟨h1, h2, h3, h4, h5⟩ := h x (by simp)
    exact ⟨[x.v], xs.map Pr.v, rfl, rep_lst.2 ⟨x.a, x.n, x.c, rfl, by rw [List.length_map]; exact h1, h2, h3, h4, _, at_of_cu h5, sq_ints _⟩, sq_prs fun y hy => h y (List.mem_cons_of_mem _ hy)⟩
theorem places_abs (W : World) {t : Tm} (hr : t.rng) (hs : t.size ≤ 100000000) : AFun Try.prog W 24 [t.cw] (.val (.lst (t.places.map fun p => CV.lst (p.map CV.i)))) := by
  refine ⟨ent_of Try.func24 rfl rfl, .inl rfl, rfl, ?_⟩
  rintro U w vs hW ⟨u1, us1, rfl, h1, h3⟩
  have h3 : us1 = [] := h3
  subst h3
  obtain ⟨a, n, c, rfl, h4⟩ := tat_of_vrep hr h1
  refine (places_any h4 hs).mono ?_
  rintro e w' ⟨a', c', rfl, ⟨xs, ho, hp, hx⟩, hb⟩
  rw [Tm.places_len] at ho
  obtain ⟨a2, c2, e2, k1, k2, k3, k4⟩ := ownsRow_at ho
  injection e2 with q1 q2 q3
  subst q1 q3
  refine ⟨_, rfl, vrep_lst.2 ⟨_, _, _, rfl, by rw [List.length_map, Tm.places_len], k1, k2, k3, _, k4.keep fun b o v h1 h2 => ⟨.inr h1, h2⟩, ?_⟩, hb⟩
  rw [← hp]
  exact (sq_prs hx).keep fun b o v h1 h2 => ⟨.inr h1.1, h2⟩
end Go.Proofs.Ytffecopfikbbbaa
