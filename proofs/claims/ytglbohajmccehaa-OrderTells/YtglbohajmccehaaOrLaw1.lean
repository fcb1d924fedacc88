/-
  OrderTells: which of any lists and of any literals are greater, and the sides of one.
-/
import Derived.Test.YtglbohajmccehaaMg6
import Derived.Test.YtglbohajmccehaaAbShp
namespace Go.Proofs.Ytglbohajmccehaa
open Go.RowKit
set_option linter.unusedVariables false
set_option linter.unusedSimpArgs false
set_option maxRecDepth 100000

theorem strip_fit {t : Tm} (h : t.fit) : t.strip.fit := ⟨Tm.strip_rng h.1, Tm.strip_ok h.2.1, by rw [Tm.strip_size]; exact h.2.2⟩
theorem same_strip (t : Tm) : sameT t.strip.strip t = true := by rw [sameT_iff, Tm.strip_strip, Tm.strip_strip]
theorem tmsL_zero (l : Lt) : (((tmsL l).map Tm.strip).map Tm.cv)[0]? = some l.a.strip.cw := by
  refine Tm.map_at ?_
  unfold tmsL
  cases l.neg <;> rfl
theorem prL_size (l : List (Tm × Tm)) : ∀ x ∈ l.map prL, x.size = 1 := by
  intro x hx
  obtain ⟨p, _, rfl⟩ := List.mem_map.1 hx
  rfl
-- 
set_option maxHeartbeats 8000000 in
theorem orderTells_abs (W : World) (a b : List Tm) (c : List Lt) (har : ∀ t ∈ a, t.rng) (hbr : ∀ t ∈ b, t.rng) (hr : okC c) : AFun Try.prog W 3 [.lst (a.map Tm.cv), .lst (b.map Tm.cv), .lst (c.map Lt.cv)] (.val (.b true)) := by
  have hsa := Tm.size_all a
  have hsb := Tm.size_all b
  have hsc := Lt.size_all c
  refine afun_of (rs := [.b true]) Try.func3 Try.ntmps3 rfl rfl rfl rfl ?_
  intro w U hW
  refine aS (aR ?_)
  (refine nx (aA (gN rfl) rfl rfl rfl rfl rfl) rfl ?_)
  show AWp _ _ _ _ _ _ _
  refine aS (aS (aR ?_))
  (refine nx (a_call (gN rfl) rfl rfl rfl rfl rfl (alive14_abs w)) rfl ?_)
  (refine nx (a_not (gN rfl) rfl rfl rfl rfl rfl) rfl ?_)
  show AWp _ _ _ _ _ _ _
  refine aC rfl (fun hc => by cases hc) (fun _ => aK ?_)
  show AWp _ _ _ _ _ _ _
  have hfi := fine11_abs w c 4 12 (by decide) (by decide) (by decide) hr
  obtain ⟨bad, hbad⟩ : ∃ bad : Bool, bad = (decide (((a.map Tm.cv).length : Int) > 6) || (decide (((b.map Tm.cv).length : Int) > 6) || !(fineC c 4 12))) := ⟨_, rfl⟩
  refine aS ?_
  refine awp_mid [(0, .val (.lst (a.map Tm.cv))), (1, .val (.lst (b.map Tm.cv))), (2, .val (.lst (c.map Lt.cv))), (31, .val (.b bad))] ?_ ?_
  · cases g1 : decide (((a.map Tm.cv).length : Int) > 6) with
    | true =>
      rw [g1, Bool.true_or] at hbad
      rw [hbad]
      refine aR ?_
      (refine nx (aM (gN rfl) rfl rfl rfl rfl rfl) rfl ?_)
      (refine nx (a_len (gN rfl) rfl rfl rfl rfl rfl rfl rfl) rfl ?_)
      (refine nx (a_gtr (gN rfl) rfl rfl rfl rfl rfl rfl) rfl ?_)
      (refine nx (aM (gN rfl) rfl rfl rfl rfl rfl) rfl ?_)
      (refine ⟨_, _, _, a_off (go_off rfl rfl rfl rfl (by first | rfl | assumption | (simp; done) | (simp [*]; done))) rfl rfl rfl, rfl, ?_⟩)
      (refine ⟨_, _, _, a_off (go_off rfl rfl rfl rfl (by first | rfl | assumption | (simp; done) | (simp [*]; done))) rfl rfl rfl, rfl, ?_⟩)
      (refine ⟨_, _, _, a_off (go_off rfl rfl rfl rfl (by first | rfl | assumption | (simp; done) | (simp [*]; done))) rfl rfl rfl, rfl, ?_⟩)
      (refine ⟨_, _, _, aPt (gN rfl) rfl rfl rfl rfl rfl ?hb rfl, rfl, ?_⟩; case hb => (first | rfl | assumption | (simp; done)))
      (refine nx (aM (gN rfl) rfl rfl rfl rfl rfl) rfl ?_)
      (refine ⟨_, _, _, a_off (go_off rfl rfl rfl rfl (by first | rfl | assumption | (simp; done) | (simp [*]; done))) rfl rfl rfl, rfl, ?_⟩)
      (refine ⟨_, _, _, a_off (go_off rfl rfl rfl rfl (by first | rfl | assumption | (simp; done) | (simp [*]; done))) rfl rfl rfl, rfl, ?_⟩)
      (refine ⟨_, _, _, a_off (go_off rfl rfl rfl rfl (by first | rfl | assumption | (simp; done) | (simp [*]; done))) rfl rfl rfl, rfl, ?_⟩)
      (refine ⟨_, _, _, aPt (gN rfl) rfl rfl rfl rfl rfl ?hb rfl, rfl, ?_⟩; case hb => (first | rfl | assumption | (simp; done)))
      exact wk_sub ⟨rfl, rfl, rfl, rfl, trivial⟩
    | false =>
      rw [g1, Bool.false_or] at hbad
      cases g2 : decide (((b.map Tm.cv).length : Int) > 6) with
      | true =>
        rw [g2, Bool.true_or] at hbad
        rw [hbad]
        refine aR ?_
        (refine nx (aM (gN rfl) rfl rfl rfl rfl rfl) rfl ?_)
        (refine nx (a_len (gN rfl) rfl rfl rfl rfl rfl rfl rfl) rfl ?_)
        (refine nx (a_gtr (gN rfl) rfl rfl rfl rfl rfl rfl) rfl ?_)
        (refine nx (aM (gN rfl) rfl rfl rfl rfl rfl) rfl ?_)
        (refine nx (aM (gd_on rfl rfl rfl rfl (by first | rfl | assumption | (simp; done))) rfl rfl rfl rfl rfl) rfl ?_)
        (refine nx (a_len (gd_on rfl rfl rfl rfl (by first | rfl | assumption | (simp; done))) rfl rfl rfl rfl rfl rfl rfl) rfl ?_)
        (refine nx (a_gtr (gd_on rfl rfl rfl rfl (by first | rfl | assumption | (simp; done))) rfl rfl rfl rfl rfl rfl) rfl ?_)
        (refine ⟨_, _, _, aPf (gN rfl) rfl rfl rfl rfl rfl ?hb rfl, rfl, ?_⟩; case hb => (first | rfl | assumption | (simp; done)))
        (refine nx (aM (gN rfl) rfl rfl rfl rfl rfl) rfl ?_)
        (refine ⟨_, _, _, a_off (go_off rfl rfl rfl rfl (by first | rfl | assumption | (simp; done) | (simp [*]; done))) rfl rfl rfl, rfl, ?_⟩)
        (refine ⟨_, _, _, a_off (go_off rfl rfl rfl rfl (by first | rfl | assumption | (simp; done) | (simp [*]; done))) rfl rfl rfl, rfl, ?_⟩)
        (refine ⟨_, _, _, a_off (go_off rfl rfl rfl rfl (by first | rfl | assumption | (simp; done) | (simp [*]; done))) rfl rfl rfl, rfl, ?_⟩)
        (refine ⟨_, _, _, aPt (gN rfl) rfl rfl rfl rfl rfl ?hb rfl, rfl, ?_⟩; case hb => (first | rfl | assumption | (simp; done)))
        exact wk_sub ⟨rfl, rfl, rfl, rfl, trivial⟩
      | false =>
        rw [g2, Bool.false_or] at hbad
        rw [hbad]
        refine aR ?_
        (refine nx (aM (gN rfl) rfl rfl rfl rfl rfl) rfl ?_)
        (refine nx (a_len (gN rfl) rfl rfl rfl rfl rfl rfl rfl) rfl ?_)
        (refine nx (a_gtr (gN rfl) rfl rfl rfl rfl rfl rfl) rfl ?_)
        (refine nx (aM (gN rfl) rfl rfl rfl rfl rfl) rfl ?_)
        (refine nx (aM (gd_on rfl rfl rfl rfl (by first | rfl | assumption | (simp; done))) rfl rfl rfl rfl rfl) rfl ?_)
        (refine nx (a_len (gd_on rfl rfl rfl rfl (by first | rfl | assumption | (simp; done))) rfl rfl rfl rfl rfl rfl rfl) rfl ?_)
        (refine nx (a_gtr (gd_on rfl rfl rfl rfl (by first | rfl | assumption | (simp; done))) rfl rfl rfl rfl rfl rfl) rfl ?_)
        (refine ⟨_, _, _, aPf (gN rfl) rfl rfl rfl rfl rfl ?hb rfl, rfl, ?_⟩; case hb => (first | rfl | assumption | (simp; done)))
        (refine nx (aM (gN rfl) rfl rfl rfl rfl rfl) rfl ?_)
        (refine nx (aM (gd_on rfl rfl rfl rfl (by first | rfl | assumption | (simp; done))) rfl rfl rfl rfl rfl) rfl ?_)
        (refine nx (a_call (gd_on rfl rfl rfl rfl (by first | rfl | assumption | (simp; done))) rfl rfl rfl rfl rfl (hfi)) rfl ?_)
        (refine nx (a_not (gd_on rfl rfl rfl rfl (by first | rfl | assumption | (simp; done))) rfl rfl rfl rfl rfl) rfl ?_)
        (refine ⟨_, _, _, aPf (gN rfl) rfl rfl rfl rfl rfl ?hb rfl, rfl, ?_⟩; case hb => (first | rfl | assumption | (simp; done)))
        exact wk_sub ⟨rfl, rfl, rfl, rfl, trivial⟩
  refine aC rfl (fun hc => ?_) (fun hc => ?_)
  · refine aS (aR ?_)
    (refine nx (aA (gN rfl) rfl rfl rfl rfl rfl) rfl ?_)
    show AWp _ _ _ _ _ _ _
    exact aT (And.intro (.inr rfl) rfl)
  have hc : bad = false := hc
  rw [hc] at hbad
  have hbad := hbad.symm
  simp only [Bool.or_eq_false_iff, decide_eq_false_iff_not, List.length_map, Bool.not_eq_false'] at hbad
  obtain ⟨hal, hbl, hF⟩ := hbad
  obtain ⟨hcl, hcf⟩ := fine_fit (by decide) (by decide) hF
  clear hfi
  refine aK ?_
  show AWp _ _ _ _ _ _ _
  refine aS (aR ?_)
  (refine nx (aA (gN rfl) rfl rfl rfl rfl rfl) rfl ?_)
  (refine nx (aA (gN rfl) rfl rfl rfl rfl rfl) rfl ?_)
  show AWp _ _ _ _ _ _ _
  refine aS (aS (aR ?_))
  (refine nx (aA (gN rfl) rfl rfl rfl rfl rfl) rfl ?_)
  show AWp _ _ _ _ _ _ _
  let st : Nat → AS := fun k => [(0, .val (.lst (a.map Tm.cv))), (1, .val (.lst (b.map Tm.cv))), (2, .val (.lst (c.map Lt.cv))), (7, .own (.lst ((a.take k).map Tm.cv)) 200051), (200051, .tok 31 2), (8, .own (.lst []) 1), (9, .val (.i k))]
  refine aB (awp_countI a.length (fun k => ∀ t ∈ a.take k, t.fit) st ((wk_nil 7 200051 31 2 rfl rfl rfl rfl rfl rfl rfl).trans (wk_sub ⟨rfl, rfl, rfl, rfl, rfl, rfl, rfl, trivial⟩)) (by simp) ?_)
  intro k hk hI
  refine aS (aS (aR ?_))
  (refine nx (aM (gN rfl) rfl rfl rfl rfl rfl) rfl ?_)
  (refine nx (aM (gN rfl) rfl rfl rfl rfl rfl) rfl ?_)
  (refine nx (a_len (gN rfl) rfl rfl rfl rfl rfl rfl rfl) rfl ?_)
  (refine nx (a_lss (gN rfl) rfl rfl rfl rfl rfl rfl) rfl ?_)
  show AWp _ _ _ _ _ _ _
  refine aC rfl (fun hlt => ?_) (fun hlt => ?_)
  · have hkl : k < a.length := by simpa using hlt
    obtain ⟨x, hx⟩ : ∃ x, a[k]? = some x := ⟨a[k], List.getElem?_eq_getElem hkl⟩
    have hx' := Tm.map_at hx
    have hxr := har x (List.mem_of_getElem? hx)
    refine aK ?_
    show AWp _ _ _ _ _ _ _
    refine aS (aB (aS (aS (aR ?_))))
    (refine nx (aM (gN rfl) rfl rfl rfl rfl rfl) rfl ?_)
    (refine nx (aM (gN rfl) rfl rfl rfl rfl rfl) rfl ?_)
    (refine nx (a_index (j := k) (gN rfl) rfl rfl rfl rfl rfl rfl rfl rfl rfl (hx') rfl (hsa)) rfl ?_)
    (refine nx (a_load_ad (gN rfl) rfl rfl rfl rfl rfl rfl rfl rfl rfl) rfl ?_)
    (refine nx (a_call (gN rfl) rfl rfl rfl rfl rfl (small_abs w x 12 8 hxr (by decide) (by decide) (by decide) (by decide))) rfl ?_)
    (refine nx (a_lss (gN rfl) rfl rfl rfl rfl rfl rfl) rfl ?_)
    show AWp _ _ _ _ _ _ _
    refine aC rfl (fun hs => ?_) (fun hs => ?_)
    · refine aS (aR ?_)
      (refine nx (aA (gN rfl) rfl rfl rfl rfl rfl) rfl ?_)
      show AWp _ _ _ _ _ _ _
      exact aT (And.intro (.inr rfl) rfl)
    · have hs : decide (smallT x 12 8 < 0) = false := hs
      obtain ⟨hxf, _⟩ := small_fit (size := 12) (by decide) (by decide) (show 0 ≤ smallT x 12 8 by have := of_decide_eq_false hs; omega)
      have hsR := Tm.size_all (a.take k)
      have hlR : ((a.take k).map Tm.cv).length ≤ 6 := by rw [List.length_map, List.length_take]; omega
      have hlR2 : (a.take k).length ≤ 6 := by rw [List.length_take]; omega
      refine aK ?_
      show AWp _ _ _ _ _ _ _
      refine aR ?_
      (refine nx (aM (gN rfl) rfl rfl rfl rfl rfl) rfl ?_)
      (refine nx (aM (gN rfl) rfl rfl rfl rfl rfl) rfl ?_)
      (refine nx (aM (gN rfl) rfl rfl rfl rfl rfl) rfl ?_)
      (refine nx (a_index (j := k) (gN rfl) rfl rfl rfl rfl rfl rfl rfl rfl rfl (hx') rfl (hsa)) rfl ?_)
      (refine nx (a_load_ad (gN rfl) rfl rfl rfl rfl rfl rfl rfl rfl rfl) rfl ?_)
      (refine nx (a_call (gN rfl) rfl rfl rfl rfl rfl (of_abs w x hxf.2.1)) rfl ?_)
      (refine nx (a_bslice (gN rfl) rfl rfl rfl rfl rfl rfl rfl rfl rfl rfl rfl rfl rfl) rfl ?_)
      (refine nx (a_app (gN rfl) rfl rfl rfl rfl rfl rfl rfl rfl rfl rfl rfl rfl rfl rfl rfl (by first | assumption | exact sZ rfl | exact Tm.size_all _ | exact Bd.size_all _ | exact ints_size _ | exact bys_size _ | exact Lt.size_all _) (by first | assumption | exact sZ rfl | exact Tm.size_all _ | exact Bd.size_all _ | exact ints_size _ | exact bys_size _ | exact Lt.size_all _) (by first | omega | (simp only [List.length_map, List.length_append, List.length_cons, List.length_nil] <;> omega) | (simp <;> omega))) rfl ?_)
      (refine nx (aA (gN rfl) rfl rfl rfl rfl rfl) rfl ?_)
      show AWp _ _ _ _ _ _ _
      refine AWp.wk ((wk_sub (s' := [(0, .val (.lst (a.map Tm.cv))), (1, .val (.lst (b.map Tm.cv))), (2, .val (.lst (c.map Lt.cv))), (7, .own (.lst ((a.take (k + 1)).map Tm.cv)) 300051), (300051, .tok 31 2), (8, .own (.lst []) 1), (9, .val (.i k))]) ⟨rfl, rfl, rfl, ?_, rfl, rfl, rfl, trivial⟩).trans (wk_ren 300051 200051 rfl rfl rfl rfl)) ?_
      · show some (AV.own (.lst _) _) = some (AV.own (.lst _) _)
        rw [List.take_add_one, hx, Option.toList_some, List.map_append, List.map_cons, List.map_nil, Tm.cv_eq x]
      refine aR ?_
      (refine nx (aM (gN rfl) rfl rfl rfl rfl rfl) rfl ?_)
      (refine nx (a_add (gN rfl) rfl rfl rfl rfl rfl rfl (by first | omega | (simp only [List.length_map, List.length_append, List.length_cons, List.length_nil] <;> omega) | (simp <;> omega))) rfl ?_)
      (refine nx (aA (gN rfl) rfl rfl rfl rfl rfl) rfl ?_)
      refine ⟨hkl, ?_, wk_sub ⟨rfl, rfl, rfl, rfl, rfl, rfl, rfl, trivial⟩⟩
      intro z hz
      rw [List.take_add_one, hx, List.mem_append] at hz
      rcases hz with hz | hz
      · exact hI z hz
      · simp at hz; rw [hz]; exact hxf
  have hkl : k = a.length := by
    have : ¬ k < a.length := by simpa using hlt
    omega
  subst hkl
  rw [List.take_length] at hI
  have haf := hI
  clear hI hk hlt
  refine aE ?_
  show AWp _ _ _ _ _ _ _
  refine AWp.wk (wk_sub (s' := [(0, .val (.lst (a.map Tm.cv))), (1, .val (.lst (b.map Tm.cv))), (2, .val (.lst (c.map Lt.cv))), (7, .own (.lst (a.map Tm.cv)) 200051), (200051, .tok 31 2), (8, .own (.lst []) 1)]) ⟨rfl, rfl, rfl, ?_, rfl, rfl, trivial⟩) ?_
  · show some (AV.own (.lst _) _) = some (AV.own (.lst _) _)
    rw [List.take_length]
  refine aS (aS (aR ?_))
  (refine nx (aA (gN rfl) rfl rfl rfl rfl rfl) rfl ?_)
  show AWp _ _ _ _ _ _ _
  let st3 : Nat → AS := fun k => [(0, .val (.lst (a.map Tm.cv))), (1, .val (.lst (b.map Tm.cv))), (2, .val (.lst (c.map Lt.cv))), (7, .own (.lst (a.map Tm.cv)) 200051), (200051, .tok 31 2), (8, .own (.lst ((b.take k).map Tm.cv)) 200071), (200071, .tok 31 2), (10, .val (.i k))]
  refine aB (awp_countI b.length (fun k => ∀ t ∈ b.take k, t.fit) st3 ((wk_nil 8 200071 31 2 rfl rfl rfl rfl rfl rfl rfl).trans (wk_sub ⟨rfl, rfl, rfl, rfl, rfl, rfl, rfl, rfl, trivial⟩)) (by simp) ?_)
  intro k hk hI
  refine aS (aS (aR ?_))
  (refine nx (aM (gN rfl) rfl rfl rfl rfl rfl) rfl ?_)
  (refine nx (aM (gN rfl) rfl rfl rfl rfl rfl) rfl ?_)
  (refine nx (a_len (gN rfl) rfl rfl rfl rfl rfl rfl rfl) rfl ?_)
  (refine nx (a_lss (gN rfl) rfl rfl rfl rfl rfl rfl) rfl ?_)
  show AWp _ _ _ _ _ _ _
  refine aC rfl (fun hlt => ?_) (fun hlt => ?_)
  · have hkl : k < b.length := by simpa using hlt
    obtain ⟨x, hx⟩ : ∃ x, b[k]? = some x := ⟨b[k], List.getElem?_eq_getElem hkl⟩
    have hx' := Tm.map_at hx
    have hxr := hbr x (List.mem_of_getElem? hx)
    refine aK ?_
    show AWp _ _ _ _ _ _ _
    refine aS (aB (aS (aS (aR ?_))))
    (refine nx (aM (gN rfl) rfl rfl rfl rfl rfl) rfl ?_)
    (refine nx (aM (gN rfl) rfl rfl rfl rfl rfl) rfl ?_)
    (refine nx (a_index (j := k) (gN rfl) rfl rfl rfl rfl rfl rfl rfl rfl rfl (hx') rfl (hsb)) rfl ?_)
    (refine nx (a_load_ad (gN rfl) rfl rfl rfl rfl rfl rfl rfl rfl rfl) rfl ?_)
    (refine nx (a_call (gN rfl) rfl rfl rfl rfl rfl (small_abs w x 12 8 hxr (by decide) (by decide) (by decide) (by decide))) rfl ?_)
    (refine nx (a_lss (gN rfl) rfl rfl rfl rfl rfl rfl) rfl ?_)
    show AWp _ _ _ _ _ _ _
    refine aC rfl (fun hs => ?_) (fun hs => ?_)
    · refine aS (aR ?_)
      (refine nx (aA (gN rfl) rfl rfl rfl rfl rfl) rfl ?_)
      show AWp _ _ _ _ _ _ _
      exact aT (And.intro (.inr rfl) rfl)
    · have hs : decide (smallT x 12 8 < 0) = false := hs
      obtain ⟨hxf, _⟩ := small_fit (size := 12) (by decide) (by decide) (show 0 ≤ smallT x 12 8 by have := of_decide_eq_false hs; omega)
      have hsR := Tm.size_all (b.take k)
      have hlR : ((b.take k).map Tm.cv).length ≤ 6 := by rw [List.length_map, List.length_take]; omega
      have hlR2 : (b.take k).length ≤ 6 := by rw [List.length_take]; omega
      refine aK ?_
      show AWp _ _ _ _ _ _ _
      refine aR ?_
      (refine nx (aM (gN rfl) rfl rfl rfl rfl rfl) rfl ?_)
      (refine nx (aM (gN rfl) rfl rfl rfl rfl rfl) rfl ?_)
      (refine nx (aM (gN rfl) rfl rfl rfl rfl rfl) rfl ?_)
      (refine nx (a_index (j := k) (gN rfl) rfl rfl rfl rfl rfl rfl rfl rfl rfl (hx') rfl (hsb)) rfl ?_)
      (refine nx (a_load_ad (gN rfl) rfl rfl rfl rfl rfl rfl rfl rfl rfl) rfl ?_)
      (refine nx (a_call (gN rfl) rfl rfl rfl rfl rfl (of_abs w x hxf.2.1)) rfl ?_)
      (refine nx (a_bslice (gN rfl) rfl rfl rfl rfl rfl rfl rfl rfl rfl rfl rfl rfl rfl) rfl ?_)
      (refine nx (a_app (gN rfl) rfl rfl rfl rfl rfl rfl rfl rfl rfl rfl rfl rfl rfl rfl rfl (by first | assumption | exact sZ rfl | exact Tm.size_all _ | exact Bd.size_all _ | exact ints_size _ | exact bys_size _ | exact Lt.size_all _) (by first | assumption | exact sZ rfl | exact Tm.size_all _ | exact Bd.size_all _ | exact ints_size _ | exact bys_size _ | exact Lt.size_all _) (by first | omega | (simp only [List.length_map, List.length_append, List.length_cons, List.length_nil] <;> omega) | (simp <;> omega))) rfl ?_)
      (refine nx (aA (gN rfl) rfl rfl rfl rfl rfl) rfl ?_)
      show AWp _ _ _ _ _ _ _
      refine AWp.wk ((wk_sub (s' := [(0, .val (.lst (a.map Tm.cv))), (1, .val (.lst (b.map Tm.cv))), (2, .val (.lst (c.map Lt.cv))), (7, .own (.lst (a.map Tm.cv)) 200051), (200051, .tok 31 2), (8, .own (.lst ((b.take (k + 1)).map Tm.cv)) 300071), (300071, .tok 31 2), (10, .val (.i k))]) ⟨rfl, rfl, rfl, rfl, rfl, ?_, rfl, rfl, trivial⟩).trans (wk_ren 300071 200071 rfl rfl rfl rfl)) ?_
      · show some (AV.own (.lst _) _) = some (AV.own (.lst _) _)
        rw [List.take_add_one, hx, Option.toList_some, List.map_append, List.map_cons, List.map_nil, Tm.cv_eq x]
      refine aR ?_
      (refine nx (aM (gN rfl) rfl rfl rfl rfl rfl) rfl ?_)
      (refine nx (a_add (gN rfl) rfl rfl rfl rfl rfl rfl (by first | omega | (simp only [List.length_map, List.length_append, List.length_cons, List.length_nil] <;> omega) | (simp <;> omega))) rfl ?_)
      (refine nx (aA (gN rfl) rfl rfl rfl rfl rfl) rfl ?_)
      refine ⟨hkl, ?_, wk_sub ⟨rfl, rfl, rfl, rfl, rfl, rfl, rfl, rfl, trivial⟩⟩
      intro z hz
      rw [List.take_add_one, hx, List.mem_append] at hz
      rcases hz with hz | hz
      · exact hI z hz
      · simp at hz; rw [hz]; exact hxf
  have hkl : k = b.length := by
    have : ¬ k < b.length := by simpa using hlt
    omega
  subst hkl
  rw [List.take_length] at hI
  have hbf := hI
  clear hI hk hlt
  refine aE ?_
  show AWp _ _ _ _ _ _ _
  refine AWp.wk (wk_sub (s' := [(0, .val (.lst (a.map Tm.cv))), (1, .val (.lst (b.map Tm.cv))), (2, .val (.lst (c.map Lt.cv))), (7, .own (.lst (a.map Tm.cv)) 200051), (200051, .tok 31 2), (8, .own (.lst (b.map Tm.cv)) 200071), (200071, .tok 31 2)]) ⟨rfl, rfl, rfl, rfl, rfl, ?_, rfl, trivial⟩) ?_
  · show some (AV.own (.lst _) _) = some (AV.own (.lst _) _)
    rw [List.take_length]
  refine aS (aS (aR ?_))
  (refine nx (aA (gN rfl) rfl rfl rfl rfl rfl) rfl ?_)
  show AWp _ _ _ _ _ _ _
  let st4 : Nat → AS := fun i => [(0, .val (.lst (a.map Tm.cv))), (1, .val (.lst (b.map Tm.cv))), (2, .val (.lst (c.map Lt.cv))), (7, .own (.lst (a.map Tm.cv)) 200051), (200051, .tok 31 2), (8, .own (.lst (b.map Tm.cv)) 200071), (200071, .tok 31 2), (11, .val (.i i))]
  refine aB (awp_count c.length st4 (wk_sub ⟨rfl, rfl, rfl, rfl, rfl, rfl, rfl, rfl, trivial⟩) ?_)
  intro i hi
  refine aS (aS (aR ?_))
  (refine nx (aM (gN rfl) rfl rfl rfl rfl rfl) rfl ?_)
  (refine nx (aM (gN rfl) rfl rfl rfl rfl rfl) rfl ?_)
  (refine nx (a_len (gN rfl) rfl rfl rfl rfl rfl rfl rfl) rfl ?_)
  (refine nx (a_lss (gN rfl) rfl rfl rfl rfl rfl rfl) rfl ?_)
  show AWp _ _ _ _ _ _ _
  refine aC rfl (fun hlt => ?_) (fun hlt => ?_)
  · have hil : i < c.length := by simpa using hlt
    obtain ⟨l, hl⟩ : ∃ l, c[i]? = some l := ⟨c[i], List.getElem?_eq_getElem hil⟩
    have hl' := Lt.map_at hl
    have hlf := hcf l (List.mem_of_getElem? hl)
    have hlo : l.a.ok ∧ l.b.ok := ⟨hlf.1.2.1, hlf.2.2.1⟩
    have ht0 := tmsL_zero l
    have hst := Tm.size_all ((tmsL l).map Tm.strip)
    have hsame := refSame_abs w l.a.strip.strip l.a (Tm.strip_ok (Tm.strip_ok hlo.1)) hlo.1
    rw [same_strip] at hsame
    have gl : decide (((((tmsL l).map Tm.strip).map Tm.cv).length : Int) ≠ (((tmsL l).map Tm.cv).length : Int)) = false := by rw [decide_eq_false_iff_not, List.length_map, List.length_map, List.length_map]; exact fun h => h rfl
    refine aK ?_
    show AWp _ _ _ _ _ _ _
    refine aS (aB (aS (aR ?_)))
    (refine nx (aM (gN rfl) rfl rfl rfl rfl rfl) rfl ?_)
    (refine nx (aM (gN rfl) rfl rfl rfl rfl rfl) rfl ?_)
    (refine nx (a_index (j := i) (gN rfl) rfl rfl rfl rfl rfl rfl rfl rfl rfl (hl') rfl (hsc)) rfl ?_)
    (refine nx (a_load_ad (gN rfl) rfl rfl rfl rfl rfl rfl rfl rfl rfl) rfl ?_)
    (refine nx (a_call (gN rfl) rfl rfl rfl rfl rfl (lit14_abs w l hlo)) rfl ?_)
    (refine nx (a_call (gN rfl) rfl rfl rfl rfl rfl (oTermsX_abs w l hlf)) rfl ?_)
    (refine nx (aA (gN rfl) rfl rfl rfl rfl rfl) rfl ?_)
    show AWp _ _ _ _ _ _ _
    refine aS (aS (aD (by kernel_rfl) (by kernel_rfl) ?_))
    (refine nx (aM (gN rfl) rfl rfl rfl rfl rfl) rfl ?_)
    (refine nx (a_len (gN rfl) rfl rfl rfl rfl rfl rfl rfl) rfl ?_)
    (refine nx (aM (gN rfl) rfl rfl rfl rfl rfl) rfl ?_)
    (refine nx (aM (gN rfl) rfl rfl rfl rfl rfl) rfl ?_)
    (refine nx (a_index (j := i) (gN rfl) rfl rfl rfl rfl rfl rfl rfl rfl rfl (hl') rfl (hsc)) rfl ?_)
    (refine nx (a_load_ad (gN rfl) rfl rfl rfl rfl rfl rfl rfl rfl rfl) rfl ?_)
    (refine nx (a_call (gN rfl) rfl rfl rfl rfl rfl (rTms_abs w l)) rfl ?_)
    (refine nx (a_len (gN rfl) rfl rfl rfl rfl rfl rfl rfl) rfl ?_)
    (refine nx (a_neq (gN rfl) rfl rfl rfl rfl rfl rfl) rfl ?_)
    (refine nx (aM (gN rfl) rfl rfl rfl rfl rfl) rfl ?_)
    (refine nx (aM (gd_on rfl rfl rfl rfl (by first | rfl | assumption | (simp; done))) rfl rfl rfl rfl rfl) rfl ?_)
    (refine nx (a_index (j := 0) (gd_on rfl rfl rfl rfl (by first | rfl | assumption | (simp; done))) rfl rfl rfl rfl rfl rfl rfl rfl rfl (ht0) rfl (hst)) rfl ?_)
    (refine nx (a_load_ad (gd_on rfl rfl rfl rfl (by first | rfl | assumption | (simp; done))) rfl rfl rfl rfl rfl rfl rfl rfl rfl) rfl ?_)
    (refine nx (a_call (gd_on rfl rfl rfl rfl (by first | rfl | assumption | (simp; done))) rfl rfl rfl rfl rfl (to_abs w l.a.strip (Tm.strip_ok hlo.1))) rfl ?_)
    (refine nx (aM (gd_on rfl rfl rfl rfl (by first | rfl | assumption | (simp; done))) rfl rfl rfl rfl rfl) rfl ?_)
    (refine nx (aM (gd_on rfl rfl rfl rfl (by first | rfl | assumption | (simp; done))) rfl rfl rfl rfl rfl) rfl ?_)
    (refine nx (a_index (j := i) (gd_on rfl rfl rfl rfl (by first | rfl | assumption | (simp; done))) rfl rfl rfl rfl rfl rfl rfl rfl rfl (hl') rfl (hsc)) rfl ?_)
    (refine nx (a_field_ad (gd_on rfl rfl rfl rfl (by first | rfl | assumption | (simp; done))) rfl rfl rfl rfl rfl rfl rfl rfl rfl rfl rfl) rfl ?_)
    (refine nx (a_load_ad (gd_on rfl rfl rfl rfl (by first | rfl | assumption | (simp; done))) rfl rfl rfl rfl rfl rfl rfl rfl rfl) rfl ?_)
    (refine nx (a_call (gd_on rfl rfl rfl rfl (by first | rfl | assumption | (simp; done))) rfl rfl rfl rfl rfl (hsame)) rfl ?_)
    (refine nx (a_not (gd_on rfl rfl rfl rfl (by first | rfl | assumption | (simp; done))) rfl rfl rfl rfl rfl) rfl ?_)
    (refine ⟨_, _, _, aPf (gN rfl) rfl rfl rfl rfl rfl ?hb rfl, rfl, ?_⟩; case hb => (first | rfl | assumption | (simp; done)))
    refine ⟨by kernel_rfl, ?_⟩
    show AWp _ _ _ _ _ _ _
    refine aC rfl (fun hc => by cases hc) (fun _ => aK ?_)
    show AWp _ _ _ _ _ _ _
    refine AWp.wk (wk_sub (s' := st4 i) ⟨rfl, rfl, rfl, rfl, rfl, rfl, rfl, rfl, trivial⟩) ?_
    refine aS (aS (aR ?_))
    (refine nx (aA (gN rfl) rfl rfl rfl rfl rfl) rfl ?_)
    show AWp _ _ _ _ _ _ _
    let st5 : Nat → AS := fun k => [(0, .val (.lst (a.map Tm.cv))), (1, .val (.lst (b.map Tm.cv))), (2, .val (.lst (c.map Lt.cv))), (7, .own (.lst (a.map Tm.cv)) 200051), (200051, .tok 31 2), (8, .own (.lst (b.map Tm.cv)) 200071), (200071, .tok 31 2), (11, .val (.i i)), (13, .val (.i k))]
    refine aB (awp_count c.length st5 (wk_sub ⟨rfl, rfl, rfl, rfl, rfl, rfl, rfl, rfl, rfl, trivial⟩) ?_)
    intro k hk
    refine aS (aS (aR ?_))
    (refine nx (aM (gN rfl) rfl rfl rfl rfl rfl) rfl ?_)
    (refine nx (aM (gN rfl) rfl rfl rfl rfl rfl) rfl ?_)
    (refine nx (a_len (gN rfl) rfl rfl rfl rfl rfl rfl rfl) rfl ?_)
    (refine nx (a_lss (gN rfl) rfl rfl rfl rfl rfl rfl) rfl ?_)
    show AWp _ _ _ _ _ _ _
    refine aC rfl (fun hlt2 => ?_) (fun hlt2 => ?_)
    · have hkl : k < c.length := by simpa using hlt2
      obtain ⟨m, hm⟩ : ∃ m, c[k]? = some m := ⟨c[k], List.getElem?_eq_getElem hkl⟩
      have hm' := Lt.map_at hm
      have hmf := hcf m (List.mem_of_getElem? hm)
      have hmo : m.a.ok ∧ m.b.ok := ⟨hmf.1.2.1, hmf.2.2.1⟩
      have G1 := oGr_abs w l m hlf hmf
      have G2 := rGr14_abs w l m hlf hmf
      obtain ⟨X, hX⟩ : ∃ X, X = mulB (tmsL l) (tmsL m) := ⟨_, rfl⟩
      rw [← hX] at G1 G2
      refine aK ?_
      show AWp _ _ _ _ _ _ _
      refine aS (aB (aS (aD (by kernel_rfl) (by kernel_rfl) ?_)))
      (refine nx (aM (gN rfl) rfl rfl rfl rfl rfl) rfl ?_)
      (refine nx (aM (gN rfl) rfl rfl rfl rfl rfl) rfl ?_)
      (refine nx (a_index (j := i) (gN rfl) rfl rfl rfl rfl rfl rfl rfl rfl rfl (hl') rfl (hsc)) rfl ?_)
      (refine nx (a_load_ad (gN rfl) rfl rfl rfl rfl rfl rfl rfl rfl rfl) rfl ?_)
      (refine nx (a_call (gN rfl) rfl rfl rfl rfl rfl (lit14_abs w l hlo)) rfl ?_)
      (refine nx (aM (gN rfl) rfl rfl rfl rfl rfl) rfl ?_)
      (refine nx (aM (gN rfl) rfl rfl rfl rfl rfl) rfl ?_)
      (refine nx (a_index (j := k) (gN rfl) rfl rfl rfl rfl rfl rfl rfl rfl rfl (hm') rfl (hsc)) rfl ?_)
      (refine nx (a_load_ad (gN rfl) rfl rfl rfl rfl rfl rfl rfl rfl rfl) rfl ?_)
      (refine nx (a_call (gN rfl) rfl rfl rfl rfl rfl (lit14_abs w m hmo)) rfl ?_)
      (refine nx (a_call (gN rfl) rfl rfl rfl rfl rfl (G1)) rfl ?_)
      (refine nx (aM (gN rfl) rfl rfl rfl rfl rfl) rfl ?_)
      (refine nx (aM (gN rfl) rfl rfl rfl rfl rfl) rfl ?_)
      (refine nx (a_index (j := i) (gN rfl) rfl rfl rfl rfl rfl rfl rfl rfl rfl (hl') rfl (hsc)) rfl ?_)
      (refine nx (a_load_ad (gN rfl) rfl rfl rfl rfl rfl rfl rfl rfl rfl) rfl ?_)
      (refine nx (aM (gN rfl) rfl rfl rfl rfl rfl) rfl ?_)
      (refine nx (aM (gN rfl) rfl rfl rfl rfl rfl) rfl ?_)
      (refine nx (a_index (j := k) (gN rfl) rfl rfl rfl rfl rfl rfl rfl rfl rfl (hm') rfl (hsc)) rfl ?_)
      (refine nx (a_load_ad (gN rfl) rfl rfl rfl rfl rfl rfl rfl rfl rfl) rfl ?_)
      (refine nx (a_call (gN rfl) rfl rfl rfl rfl rfl (G2)) rfl ?_)
      (refine nx (a_bne (gN rfl) rfl rfl rfl rfl rfl rfl rfl) rfl ?_)
      refine ⟨by kernel_rfl, ?_⟩
      show AWp _ _ _ _ _ _ _
      refine aC rfl (fun hc => by have hc : (X != X) = true := hc; simp at hc) (fun _ => aK ?_)
      show AWp _ _ _ _ _ _ _
      refine aR ?_
      (refine nx (aM (gN rfl) rfl rfl rfl rfl rfl) rfl ?_)
      (refine nx (a_add (gN rfl) rfl rfl rfl rfl rfl rfl (by first | omega | (simp only [List.length_map, List.length_append, List.length_cons, List.length_nil] <;> omega) | (simp <;> omega))) rfl ?_)
      (refine nx (aA (gN rfl) rfl rfl rfl rfl rfl) rfl ?_)
      exact ⟨hkl, wk_sub ⟨rfl, rfl, rfl, rfl, rfl, rfl, rfl, rfl, rfl, trivial⟩⟩
    have hkl : k = c.length := by
      have : ¬ k < c.length := by simpa using hlt2
      omega
    subst hkl
    refine aE ?_
    show AWp _ _ _ _ _ _ _
    have hO := oOri_abs w l hlf
    rw [orD_orK] at hO
    obtain ⟨D, hD⟩ : ∃ D, D = orD l := ⟨_, rfl⟩
    have hDf : ∀ p ∈ D, p.1.fit ∧ p.2.fit := by
      intro p hp
      rw [hD] at hp
      unfold orD at hp
      rcases List.mem_append.1 hp with hp | hp
      · split at hp
        · rw [List.mem_singleton] at hp; rw [hp]; exact hlf
        · cases hp
      · split at hp
        · rw [List.mem_singleton] at hp; rw [hp]; exact ⟨hlf.2, hlf.1⟩
        · cases hp
    have hO2 := rOri14_abs w l hlf
    rw [← hD] at hO hO2
    refine aS (aD (by kernel_rfl) (by kernel_rfl) ?_)
    (refine nx (aM (gN rfl) rfl rfl rfl rfl rfl) rfl ?_)
    (refine nx (aM (gN rfl) rfl rfl rfl rfl rfl) rfl ?_)
    (refine nx (a_index (j := i) (gN rfl) rfl rfl rfl rfl rfl rfl rfl rfl rfl (hl') rfl (hsc)) rfl ?_)
    (refine nx (a_load_ad (gN rfl) rfl rfl rfl rfl rfl rfl rfl rfl rfl) rfl ?_)
    (refine nx (a_call (gN rfl) rfl rfl rfl rfl rfl (lit14_abs w l hlo)) rfl ?_)
    (refine nx (a_call (gN rfl) rfl rfl rfl rfl rfl (hO)) rfl ?_)
    (refine nx (aM (gN rfl) rfl rfl rfl rfl rfl) rfl ?_)
    (refine nx (aM (gN rfl) rfl rfl rfl rfl rfl) rfl ?_)
    (refine nx (a_index (j := i) (gN rfl) rfl rfl rfl rfl rfl rfl rfl rfl rfl (hl') rfl (hsc)) rfl ?_)
    (refine nx (a_load_ad (gN rfl) rfl rfl rfl rfl rfl rfl rfl rfl rfl) rfl ?_)
    (refine nx (a_call (gN rfl) rfl rfl rfl rfl rfl (hO2)) rfl ?_)
    (refine nx (aA (gN rfl) rfl rfl rfl rfl rfl) rfl ?_)
    (refine nx (aA (gN rfl) rfl rfl rfl rfl rfl) rfl ?_)
    refine ⟨by kernel_rfl, ?_⟩
    show AWp _ _ _ _ _ _ _
    obtain ⟨E, hE⟩ : ∃ E, E = D.map fun p => (p.1.strip, p.2.strip) := ⟨_, rfl⟩
    have gO : decide (((E.map prC).length : Int) ≠ ((D.map prL).length : Int)) = false := by rw [decide_eq_false_iff_not, hE, List.length_map, List.length_map, List.length_map]; exact fun h => h rfl
    refine AWp.wk (wk_sub (s' := [(0, .val (.lst (a.map Tm.cv))), (1, .val (.lst (b.map Tm.cv))), (2, .val (.lst (c.map Lt.cv))), (7, .own (.lst (a.map Tm.cv)) 200051), (200051, .tok 31 2), (8, .own (.lst (b.map Tm.cv)) 200071), (200071, .tok 31 2), (11, .val (.i i)), (14, .val (.lst (E.map prC))), (15, .val (.lst (D.map prL)))]) ⟨rfl, rfl, rfl, rfl, rfl, rfl, rfl, rfl, by rw [hE]; rfl, rfl, trivial⟩) ?_
    refine aS (aS (aR ?_))
    (refine nx (aM (gN rfl) rfl rfl rfl rfl rfl) rfl ?_)
    (refine nx (a_len (gN rfl) rfl rfl rfl rfl rfl rfl rfl) rfl ?_)
    (refine nx (aM (gN rfl) rfl rfl rfl rfl rfl) rfl ?_)
    (refine nx (a_len (gN rfl) rfl rfl rfl rfl rfl rfl rfl) rfl ?_)
    (refine nx (a_neq (gN rfl) rfl rfl rfl rfl rfl rfl) rfl ?_)
    show AWp _ _ _ _ _ _ _
    refine aC rfl (fun hc => by have hc : decide (((E.map prC).length : Int) ≠ ((D.map prL).length : Int)) = true := hc; rw [gO] at hc; cases hc) (fun _ => aK ?_)
    show AWp _ _ _ _ _ _ _
    have hEl : E.length ≤ 2 := by
      rw [hE, List.length_map, hD]
      unfold orD
      rw [List.length_append]
      split <;> split <;> simp
    have hEs := prC_size E
    have hDs := prL_size D
    refine aS (aR ?_)
    (refine nx (aA (gN rfl) rfl rfl rfl rfl rfl) rfl ?_)
    show AWp _ _ _ _ _ _ _
    let st6 : Nat → AS := fun k => [(0, .val (.lst (a.map Tm.cv))), (1, .val (.lst (b.map Tm.cv))), (2, .val (.lst (c.map Lt.cv))), (7, .own (.lst (a.map Tm.cv)) 200051), (200051, .tok 31 2), (8, .own (.lst (b.map Tm.cv)) 200071), (200071, .tok 31 2), (11, .val (.i i)), (14, .val (.lst (E.map prC))), (15, .val (.lst (D.map prL))), (16, .val (.i k))]
    refine aB (awp_count E.length st6 (wk_sub ⟨rfl, rfl, rfl, rfl, rfl, rfl, rfl, rfl, rfl, rfl, rfl, trivial⟩) ?_)
    intro k hk
    refine aS (aS (aR ?_))
    (refine nx (aM (gN rfl) rfl rfl rfl rfl rfl) rfl ?_)
    (refine nx (aM (gN rfl) rfl rfl rfl rfl rfl) rfl ?_)
    (refine nx (a_len (gN rfl) rfl rfl rfl rfl rfl rfl rfl) rfl ?_)
    (refine nx (a_lss (gN rfl) rfl rfl rfl rfl rfl rfl) rfl ?_)
    show AWp _ _ _ _ _ _ _
    refine aC rfl (fun hlt3 => ?_) (fun hlt3 => ?_)
    · have hkl : k < E.length := by simpa using hlt3
      have hkD : k < D.length := by rw [hE, List.length_map] at hkl; exact hkl
      obtain ⟨p, hp⟩ : ∃ p, D[k]? = some p := ⟨D[k], List.getElem?_eq_getElem hkD⟩
      have hpf := hDf p (List.mem_of_getElem? hp)
      have hp1 : (D.map prL)[k]? = some (.lst [p.1.cw, p.2.cw]) := by rw [List.getElem?_map, hp]; rfl
      have hp2 : (E.map prC)[k]? = some (.row [p.1.strip.cw, p.2.strip.cw]) := by rw [hE, List.getElem?_map, List.getElem?_map, hp]; rfl
      have hs1 := refSame_abs w p.1.strip.strip p.1 (Tm.strip_ok (Tm.strip_ok hpf.1.2.1)) hpf.1.2.1
      rw [same_strip] at hs1
      have hs2 := refSame_abs w p.2.strip.strip p.2 (Tm.strip_ok (Tm.strip_ok hpf.2.2.1)) hpf.2.2.1
      rw [same_strip] at hs2
      have hs2' : ∀ c ∈ [p.1.cw, p.2.cw], c.size = 2 := fun c hc => by
        rcases List.mem_cons.1 hc with rfl | hc
        · rfl
        · rw [List.mem_singleton] at hc; rw [hc]; rfl
      refine aK ?_
      show AWp _ _ _ _ _ _ _
      refine aS (aB (aS (aD (by kernel_rfl) (by kernel_rfl) ?_)))
      (refine nx (aM (gN rfl) rfl rfl rfl rfl rfl) rfl ?_)
      (refine nx (aM (gN rfl) rfl rfl rfl rfl rfl) rfl ?_)
      (refine nx (a_index (j := k) (gN rfl) rfl rfl rfl rfl rfl rfl rfl rfl rfl (hp2) rfl (hEs)) rfl ?_)
      (refine nx (a_idxAd 0 (gN rfl) rfl rfl rfl rfl rfl rfl rfl rfl rfl rfl rfl rfl rfl) rfl ?_)
      (refine nx (a_load_ad (gN rfl) rfl rfl rfl rfl rfl rfl rfl rfl rfl) rfl ?_)
      (refine nx (a_call (gN rfl) rfl rfl rfl rfl rfl (to_abs w p.1.strip (Tm.strip_ok hpf.1.2.1))) rfl ?_)
      (refine nx (aM (gN rfl) rfl rfl rfl rfl rfl) rfl ?_)
      (refine nx (aM (gN rfl) rfl rfl rfl rfl rfl) rfl ?_)
      (refine nx (a_index (j := k) (gN rfl) rfl rfl rfl rfl rfl rfl rfl rfl rfl (hp1) rfl (hDs)) rfl ?_)
      (refine nx (a_load_ad (gN rfl) rfl rfl rfl rfl rfl rfl rfl rfl rfl) rfl ?_)
      (refine nx (a_index (j := 0) (gN rfl) rfl rfl rfl rfl rfl rfl rfl rfl rfl (rfl) rfl (hs2')) rfl ?_)
      (refine nx (a_load_ad (gN rfl) rfl rfl rfl rfl rfl rfl rfl rfl rfl) rfl ?_)
      (refine nx (a_call (gN rfl) rfl rfl rfl rfl rfl (hs1)) rfl ?_)
      (refine nx (a_not (gN rfl) rfl rfl rfl rfl rfl) rfl ?_)
      (refine nx (aM (gN rfl) rfl rfl rfl rfl rfl) rfl ?_)
      (refine nx (aM (gd_on rfl rfl rfl rfl (by first | rfl | assumption | (simp; done))) rfl rfl rfl rfl rfl) rfl ?_)
      (refine nx (aM (gd_on rfl rfl rfl rfl (by first | rfl | assumption | (simp; done))) rfl rfl rfl rfl rfl) rfl ?_)
      (refine nx (a_index (j := k) (gd_on rfl rfl rfl rfl (by first | rfl | assumption | (simp; done))) rfl rfl rfl rfl rfl rfl rfl rfl rfl (hp2) rfl (hEs)) rfl ?_)
      (refine nx (a_idxAd 1 (gd_on rfl rfl rfl rfl (by first | rfl | assumption | (simp; done))) rfl rfl rfl rfl rfl rfl rfl rfl rfl rfl rfl rfl rfl) rfl ?_)
      (refine nx (a_load_ad (gd_on rfl rfl rfl rfl (by first | rfl | assumption | (simp; done))) rfl rfl rfl rfl rfl rfl rfl rfl rfl) rfl ?_)
      (refine nx (a_call (gd_on rfl rfl rfl rfl (by first | rfl | assumption | (simp; done))) rfl rfl rfl rfl rfl (to_abs w p.2.strip (Tm.strip_ok hpf.2.2.1))) rfl ?_)
      (refine nx (aM (gd_on rfl rfl rfl rfl (by first | rfl | assumption | (simp; done))) rfl rfl rfl rfl rfl) rfl ?_)
      (refine nx (aM (gd_on rfl rfl rfl rfl (by first | rfl | assumption | (simp; done))) rfl rfl rfl rfl rfl) rfl ?_)
      (refine nx (a_index (j := k) (gd_on rfl rfl rfl rfl (by first | rfl | assumption | (simp; done))) rfl rfl rfl rfl rfl rfl rfl rfl rfl (hp1) rfl (hDs)) rfl ?_)
      (refine nx (a_load_ad (gd_on rfl rfl rfl rfl (by first | rfl | assumption | (simp; done))) rfl rfl rfl rfl rfl rfl rfl rfl rfl) rfl ?_)
      (refine nx (a_index (j := 1) (gd_on rfl rfl rfl rfl (by first | rfl | assumption | (simp; done))) rfl rfl rfl rfl rfl rfl rfl rfl rfl (rfl) rfl (hs2')) rfl ?_)
      (refine nx (a_load_ad (gd_on rfl rfl rfl rfl (by first | rfl | assumption | (simp; done))) rfl rfl rfl rfl rfl rfl rfl rfl rfl) rfl ?_)
      (refine nx (a_call (gd_on rfl rfl rfl rfl (by first | rfl | assumption | (simp; done))) rfl rfl rfl rfl rfl (hs2)) rfl ?_)
      (refine nx (a_not (gd_on rfl rfl rfl rfl (by first | rfl | assumption | (simp; done))) rfl rfl rfl rfl rfl) rfl ?_)
      (refine ⟨_, _, _, aPf (gN rfl) rfl rfl rfl rfl rfl ?hb rfl, rfl, ?_⟩; case hb => (first | rfl | assumption | (simp; done)))
      refine ⟨by kernel_rfl, ?_⟩
      show AWp _ _ _ _ _ _ _
      refine aC rfl (fun hc => by cases hc) (fun _ => aK ?_)
      show AWp _ _ _ _ _ _ _
      refine aR ?_
      (refine nx (aM (gN rfl) rfl rfl rfl rfl rfl) rfl ?_)
      (refine nx (a_add (gN rfl) rfl rfl rfl rfl rfl rfl (by first | omega | (simp only [List.length_map, List.length_append, List.length_cons, List.length_nil] <;> omega) | (simp <;> omega))) rfl ?_)
      (refine nx (aA (gN rfl) rfl rfl rfl rfl rfl) rfl ?_)
      exact ⟨hkl, wk_sub ⟨rfl, rfl, rfl, rfl, rfl, rfl, rfl, rfl, rfl, rfl, rfl, trivial⟩⟩
    have hkl : k = E.length := by
      have : ¬ k < E.length := by simpa using hlt3
      omega
    subst hkl
    refine aE ?_
    show AWp _ _ _ _ _ _ _
    refine aR ?_
    (refine nx (aM (gN rfl) rfl rfl rfl rfl rfl) rfl ?_)
    (refine nx (a_add (gN rfl) rfl rfl rfl rfl rfl rfl (by first | omega | (simp only [List.length_map, List.length_append, List.length_cons, List.length_nil] <;> omega) | (simp <;> omega))) rfl ?_)
    (refine nx (aA (gN rfl) rfl rfl rfl rfl rfl) rfl ?_)
    exact ⟨hil, wk_sub ⟨rfl, rfl, rfl, rfl, rfl, rfl, rfl, rfl, trivial⟩⟩
  have hil : i = c.length := by
    have : ¬ i < c.length := by simpa using hlt
    omega
  subst hil
  refine aE ?_
  show AWp _ _ _ _ _ _ _
  have M1 := oMulti_abs w a b haf hbf (by omega) (by omega)
  have M2 := rMulti14_abs w a b haf hbf (by omega) (by omega)
  obtain ⟨X, hX⟩ : ∃ X, X = mulB a b := ⟨_, rfl⟩
  rw [← hX] at M1 M2
  refine aS (aR ?_)
  (refine nx (aM (gN rfl) rfl rfl rfl rfl rfl) rfl ?_)
  (refine nx (aM (gN rfl) rfl rfl rfl rfl rfl) rfl ?_)
  (refine nx (a_call (gN rfl) rfl rfl rfl rfl rfl (M1)) rfl ?_)
  (refine nx (aM (gN rfl) rfl rfl rfl rfl rfl) rfl ?_)
  (refine nx (aM (gN rfl) rfl rfl rfl rfl rfl) rfl ?_)
  (refine nx (a_call (gN rfl) rfl rfl rfl rfl rfl (M2)) rfl ?_)
  (refine nx (a_beq (gN rfl) rfl rfl rfl rfl rfl rfl rfl) rfl ?_)
  (refine nx (aA (gN rfl) rfl rfl rfl rfl rfl) rfl ?_)
  show AWp _ _ _ _ _ _ _
  refine aT (And.intro (.inr rfl) ?_)
  show some [CV.b (X == X)] = some [CV.b true]
  simp
theorem shp_tms {n : Nat} {c : CV} (h : Shp Try.prog n 22 c) : ∃ l : List Tm, c = .lst (l.map Tm.cv) ∧ ∀ t ∈ l, t.rng := by
  cases n with
  | zero => exact h.elim
  | succ n =>
    rw [Shp, Try.underlying22] at h
    obtain ⟨l, rfl, hl⟩ := h
    obtain ⟨m, h1, h2⟩ := list_of Tm.cv (fun t => t.rng) (l := l) (fun x hx => by
      obtain ⟨t, rfl, ht⟩ := shp_tm n (hl x hx)
      exact ⟨t, (Tm.cv_eq t).symm, ht⟩)
    exact ⟨m, by rw [h1], h2⟩

theorem shp_bool {n : Nat} {c : CV} (h : Shp Try.prog n 4 c) : ∃ b, c = .b b := by
  cases n with
  | zero => exact h.elim
  | succ n =>
    rw [Shp, Try.underlying4] at h
    exact h
theorem shp_lits {n : Nat} {c : CV} (h : Shp Try.prog n 23 c) : ∃ l : List Lt, c = .lst (l.map Lt.cv) ∧ okC l := by
  cases n with
  | zero => exact h.elim
  | succ n =>
    rw [Shp, Try.underlying23] at h
    obtain ⟨l, rfl, hl⟩ := h
    obtain ⟨m, h1, h2⟩ := list_of Lt.cv (fun l => l.a.rng ∧ l.b.rng) (l := l) (fun x hx => by
      have hx := hl x hx
      cases n with
      | zero => exact hx.elim
      | succ n =>
        have hx : Shp Try.prog (n + 1) 38 x := hx
        rw [Shp, Try.underlying38] at hx
        obtain ⟨l, rfl, hl, hf⟩ := hx
        match l, hl with
        | [x, y, z], _ =>
          obtain ⟨b, rfl⟩ := shp_bool (hf 0 _ x rfl rfl)
          obtain ⟨t, rfl, ht⟩ := shp_tm n (hf 1 _ y rfl rfl)
          obtain ⟨u, rfl, hu⟩ := shp_tm n (hf 2 _ z rfl rfl)
          exact ⟨⟨b, t, u⟩, rfl, ht, hu⟩)
    exact ⟨m, by rw [h1], h2⟩
end Go.Proofs.Ytglbohajmccehaa

