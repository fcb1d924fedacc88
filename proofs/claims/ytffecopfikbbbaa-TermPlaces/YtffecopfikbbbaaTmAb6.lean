/-
  alive, Fine, Compare over trees.
-/
import Derived.Test.YtffecopfikbbbaaRfVars
import Derived.Test.YtffecopfikbbbaaTmAlive
namespace Go.Proofs.Ytffecopfikbbbaa
open Go.RowKit
set_option linter.unusedVariables false
set_option linter.unusedSimpArgs false
set_option maxRecDepth 100000

theorem alive6_abs (W : World) : AFun Try.prog W 9 [] (.val (.b true)) := by
  refine ⟨ent_of Try.func9 rfl rfl, .inl rfl, rfl, ?_⟩
  rintro U w vs hW h
  have h : vs = [] := h
  subst h
  refine (alive_any w).mono ?_
  rintro e w' ⟨rfl, hb⟩
  exact ⟨_, rfl, vrep_sc.2 ⟨rfl, rfl⟩, hb⟩
theorem compare_abs (W : World) {t s : Tm} (ht : t.rng) (hs : s.rng) : AFun Try.prog W 18 [t.cw, s.cw] (.val (.i (cmpT t s))) := by
  refine ⟨ent_of Try.func18 rfl rfl, .inl rfl, rfl, ?_⟩
  rintro U w vs hW ⟨u1, us1, rfl, h1, u2, us2, rfl, h2, h3⟩
  have h3 : us2 = [] := h3
  subst h3
  obtain ⟨a, n, c, rfl, h4⟩ := tat_of_vrep ht h1
  obtain ⟨a', n', c', rfl, h5⟩ := tat_of_vrep hs h2
  refine (compare_any t s a a' n c n' c' w h4 h5).mono ?_
  rintro e w' ⟨rfl, hb⟩
  exact ⟨_, rfl, vrep_sc.2 ⟨rfl, rfl⟩, hb⟩
theorem las_of_vrep {U : Nat → Nat → Prop} {w : World} {l : List Tm} {v : Value} (hr : ∀ t ∈ l, t.rng) (h : VRep U w (.lst (l.map Tm.cv)) v) : ∃ a n c, v = .slice a n c ∧ Las (fun _ => True) w l a n c := by
  obtain ⟨a, n, c, h1, g2, g3, g4, g5, zs, g6, g7⟩ := vrep_lst.1 h
  refine ⟨a, n, c, h1, by rw [List.length_map] at g2; exact g2, g3, g4, g5, zs, ?_, ecs_of_sq (fun t ht ys hy => tat_of_rep (hr t ht) hy) g7⟩
  rcases g6 with g6 | ⟨b, off, g6, g8⟩
  · exact .inl g6
  · by_cases hz : zs = []
    · exact .inl hz
    · refine .inr ⟨b, off, g6, trivial, ?_, fun i hi => (g8 i hi).2⟩
      have hpos : 0 < zs.length := List.length_pos_iff.2 hz
      have := (g8 0 hpos).2
      rw [List.getElem?_eq_getElem hpos] at this
      exact World.block_lt_of_cell? w _ this
theorem fine_abs (W : World) (l : List Tm) (hr : ∀ t ∈ l, t.rng) (hl : l.length ≤ 100) : AFun Try.prog W 10 [.lst (l.map Tm.cv)] (.val (.b (fineB l))) := by
  refine ⟨ent_of Try.func10 rfl rfl, .inl rfl, rfl, ?_⟩
  rintro U w vs hW ⟨u1, us1, rfl, h1, h3⟩
  have h3 : us1 = [] := h3
  subst h3
  obtain ⟨a, n, c, rfl, h4⟩ := las_of_vrep hr h1
  refine (fine_any h4 (by have := h4.1; omega)).mono ?_
  rintro e w' ⟨rfl, hb⟩
  exact ⟨_, rfl, vrep_sc.2 ⟨rfl, rfl⟩, hb⟩
theorem fine2_abs (W : World) {t s : Tm} (ht : t.rng) (hs : s.rng) : AFun Try.prog W 10 [.lst [t.cw, s.cw]] (.val (.b (fineB [t, s]))) := by
  have := fine_abs W [t, s] (fun x hx => by
    simp at hx
    rcases hx with rfl | rfl
    · exact ht
    · exact hs) (by simp)
  simp only [List.map_cons, List.map_nil, Tm.cv_eq] at this
  exact this
/-- What Fine gives. -/
theorem fine_of {l : List Tm} (h : fineB l = true) {t : Tm} (ht : t ∈ l) : t.sm ∧ t.wt ≤ 60 ∧ t.ok ∧ t.size ≤ 60 := by
  unfold fineB at h
  rw [List.all_eq_true] at h
  have h1 := of_decide_eq_true (h t ht)
  have h2 : t.wt ≤ 60 := by have := (small_bounds t 60 20 (by decide)).2.2 h1; omega
  exact ⟨small_sm t _ _ h1, h2, Tm.wt_ok (by omega), Nat.le_trans t.size_wt h2⟩
end Go.Proofs.Ytffecopfikbbbaa
