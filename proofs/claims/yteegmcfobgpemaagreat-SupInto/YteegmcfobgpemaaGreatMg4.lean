/-
  RfVars AbOf SbVnt SbRen SbSort SbClone SbNorm SbNorm2 SbSortM SbLaw3 SbThen UnMath UnCls
-/
import Derived.Test.YteegmcfobgpemaaGreatMg3
import Derived.Test.YteegmcfobgpemaaGreatMg2
namespace Go.Proofs.YteegmcfobgpemaaGreat
open Go.RowKit
set_option linter.unusedVariables false
set_option linter.unusedSimpArgs false
set_option maxRecDepth 100000
theorem Tm.rng_flat {t : Tm} (h : t.rng) : ∀ s ∈ t.flat, -9223372036854775808 ≤ s.f ∧ s.f ≤ 9223372036854775807 := by
  induction t using Tm.indp with
  | h t ih =>
    intro s hs
    rw [Tm.flat_eq] at hs
    rcases List.mem_cons.1 hs with rfl | hs
    · exact ((Tm.rng_iff _).1 h).1
    · obtain ⟨u, hu, hs⟩ := List.mem_flatMap.1 hs
      exact ih u hu (((Tm.rng_iff _).1 h).2 u (Tm.ps_mem hu).1) s hs
theorem mem_take_succ {l : List Int} {k : Nat} {x n : Int} (h : l[k]? = some x) : n ∈ l.take (k + 1) ↔ n ∈ l.take k ∨ x = n := by
  rw [List.take_add_one, h, List.mem_append]
  simp [eq_comm]

-- 
set_option maxHeartbeats 2000000 in
theorem refVars_abs (W : World) (t : Tm) (hr : t.rng) (hok : t.ok) (hts : t.size ≤ 90000000000) : AFun Tryz.prog W 53 [t.cw] (.val (.lst ((varsF t.flat).map CV.i))) := by
  refine afun_of (rs := [.lst ((varsF t.flat).map CV.i)]) Tryz.func53 Tryz.ntmps53 rfl rfl rfl rfl ?_
  intro w U hW
  refine aS (aR ?_)
  (refine nx (a_box (gN rfl) rfl rfl rfl rfl rfl) rfl ?_)
  (refine nx (aA (gN rfl) rfl rfl rfl rfl rfl) rfl ?_)
  show AWp _ _ _ _ _ _ _
  refine aS (aR ?_)
  (refine nx (aL (gN rfl) rfl rfl rfl rfl rfl rfl rfl rfl rfl rfl rfl rfl) rfl ?_)
  (refine nx (a_call (gN rfl) rfl rfl rfl rfl rfl (refFlat_abs w t hok hts)) rfl ?_)
  (refine nx (aA (gN rfl) rfl rfl rfl rfl rfl) rfl ?_)
  show AWp _ _ _ _ _ _ _
  have hrf := Tm.rng_flat hr
  unfold Tm.size at hts
  obtain ⟨l, hl⟩ : ∃ l, l = t.flat := ⟨_, rfl⟩
  rw [← hl] at hrf hts ⊢
  have hsz := Tm.size_all l
  refine aS (aR ?_)
  (refine nx (aA (gN rfl) rfl rfl rfl rfl rfl) rfl ?_)
  show AWp _ _ _ _ _ _ _
  refine aS (aS (aR ?_))
  (refine nx (aA (gN rfl) rfl rfl rfl rfl rfl) rfl ?_)
  show AWp _ _ _ _ _ _ _
  refine aB (awp_count l.length (fun i => [(3, .val (.lst (l.map Tm.cv))), (4, .own (.lst ((varsF (l.take i)).map CV.i)) 200049), (200049, .tok 3 1), (5, .val (.i i))])
    ((wk_nil 4 200049 3 1 rfl rfl rfl rfl rfl rfl rfl).trans (wk_sub ⟨rfl, rfl, rfl, rfl, trivial⟩)) ?_)
  intro i hi
  refine aS (aS (aR ?_))
  (refine nx (aM (gN rfl) rfl rfl rfl rfl rfl) rfl ?_)
  (refine nx (aM (gN rfl) rfl rfl rfl rfl rfl) rfl ?_)
  (refine nx (a_len (gN rfl) rfl rfl rfl rfl rfl rfl rfl) rfl ?_)
  (refine nx (a_lss (gN rfl) rfl rfl rfl rfl rfl rfl) rfl ?_)
  show AWp _ _ _ _ _ _ _
  refine aC rfl (fun hc => aK ?_) (fun hc => aE ?_)
  · have hil : i < l.length := by
      simp only [List.length_map, decide_eq_true_eq] at hc
      omega
    clear hc
    obtain ⟨s, hs⟩ : ∃ s, l[i]? = some s := ⟨l[i], List.getElem?_eq_getElem hil⟩
    have hs' := Tm.map_at hs
    have hsr := hrf s (List.mem_of_getElem? hs)
    have htk : l.take (i + 1) = l.take i ++ [s] := by rw [List.take_add_one, hs]; rfl
    have hvl := varsF_len (l.take i)
    rw [List.length_take] at hvl
    show AWp _ _ _ _ _ _ _
    refine aS (aB (aS (aS (aR ?_))))
    (refine nx (aM (gN rfl) rfl rfl rfl rfl rfl) rfl ?_)
    (refine nx (aM (gN rfl) rfl rfl rfl rfl rfl) rfl ?_)
    (refine nx (a_index (gN rfl) rfl rfl rfl rfl rfl rfl rfl rfl rfl (by assumption) rfl (by first | assumption | exact sZ rfl | exact Tm.size_all _ | exact Bd.size_all _ | exact ints_size _ | exact bys_size _ | exact Lt.size_all _)) rfl ?_)
    (refine nx (a_field_ad (gN rfl) rfl rfl rfl rfl rfl rfl rfl rfl rfl rfl rfl) rfl ?_)
    (refine nx (a_load_ad (gN rfl) rfl rfl rfl rfl rfl rfl rfl rfl rfl) rfl ?_)
    (refine nx (a_geq (gN rfl) rfl rfl rfl rfl rfl rfl) rfl ?_)
    show AWp _ _ _ _ _ _ _
    refine aC rfl (fun hc => aE ?_) (fun hc => aK ?_)
    · have hsf : ¬ s.f < 0 := by
        simp only [decide_eq_true_eq] at hc
        omega
      show AWp _ _ _ _ _ _ _
      refine aR ?_
      (refine nx (aM (gN rfl) rfl rfl rfl rfl rfl) rfl ?_)
      (refine nx (a_add (gN rfl) rfl rfl rfl rfl rfl rfl (by first | omega | (simp only [List.length_map, List.length_append, List.length_cons, List.length_nil] <;> omega) | (simp <;> omega))) rfl ?_)
      (refine nx (aA (gN rfl) rfl rfl rfl rfl rfl) rfl ?_)
      refine ⟨hil, wk_sub ⟨rfl, ?_, rfl, rfl, trivial⟩⟩
      rw [htk, varsF_snoc]
      unfold varS
      rw [if_neg hsf]
      rfl
    have hsf : s.f < 0 := by
      simp only [decide_eq_false_iff_not] at hc
      omega
    clear hc
    show AWp _ _ _ _ _ _ _
    refine aS (aR ?_)
    (refine nx (aM (gN rfl) rfl rfl rfl rfl rfl) rfl ?_)
    (refine nx (aM (gN rfl) rfl rfl rfl rfl rfl) rfl ?_)
    (refine nx (a_index (gN rfl) rfl rfl rfl rfl rfl rfl rfl rfl rfl (by assumption) rfl (by first | assumption | exact sZ rfl | exact Tm.size_all _ | exact Bd.size_all _ | exact ints_size _ | exact bys_size _ | exact Lt.size_all _)) rfl ?_)
    (refine nx (a_field_ad (gN rfl) rfl rfl rfl rfl rfl rfl rfl rfl rfl rfl rfl) rfl ?_)
    (refine nx (a_load_ad (gN rfl) rfl rfl rfl rfl rfl rfl rfl rfl rfl) rfl ?_)
    (refine nx (a_sub (gN rfl) rfl rfl rfl rfl rfl rfl (by first | omega | (simp only [List.length_map, List.length_append, List.length_cons, List.length_nil] <;> omega) | (simp <;> omega))) rfl ?_)
    (refine nx (aA (gN rfl) rfl rfl rfl rfl rfl) rfl ?_)
    show AWp _ _ _ _ _ _ _
    refine aS (aR ?_)
    (refine nx (aA (gN rfl) rfl rfl rfl rfl rfl) rfl ?_)
    show AWp _ _ _ _ _ _ _
    obtain ⟨n, hn⟩ : ∃ n, n = -1 - s.f := ⟨_, rfl⟩
    obtain ⟨out, ho⟩ : ∃ out, out = varsF (l.take i) := ⟨_, rfl⟩
    rw [← ho] at hvl ⊢
    have hoz := ints_size out
    refine aS (aS (aR ?_))
    (refine nx (aA (gN rfl) rfl rfl rfl rfl rfl) rfl ?_)
    show AWp _ _ _ _ _ _ _
    refine aB (awp_count out.length (fun k => [(3, .val (.lst (l.map Tm.cv))), (4, .own (.lst (out.map CV.i)) 200049), (200049, .tok 3 1), (5, .val (.i i)), (6, .val (.i n)), (7, .val (.b (decide (n ∈ out.take k)))), (8, .val (.i k))]) (wk_sub ⟨rfl, rfl, rfl, rfl, by rw [hn]; rfl, rfl, rfl, trivial⟩) ?_)
    intro k hk
    refine aS (aS (aR ?_))
    (refine nx (aM (gN rfl) rfl rfl rfl rfl rfl) rfl ?_)
    (refine nx (aM (gN rfl) rfl rfl rfl rfl rfl) rfl ?_)
    (refine nx (a_len (gN rfl) rfl rfl rfl rfl rfl rfl rfl) rfl ?_)
    (refine nx (a_lss (gN rfl) rfl rfl rfl rfl rfl rfl) rfl ?_)
    show AWp _ _ _ _ _ _ _
    refine aC rfl (fun hc => aK ?_) (fun hc => aE ?_)
    · have hkl : k < out.length := by
        simp only [List.length_map, decide_eq_true_eq] at hc
        omega
      clear hc
      obtain ⟨x, hx⟩ : ∃ x, out[k]? = some x := ⟨out[k], List.getElem?_eq_getElem hkl⟩
      have hx' := ints_at hx
      show AWp _ _ _ _ _ _ _
      by_cases hm : n ∈ out.take k
      · have hg : decide (n ∈ out.take k) = true := by simpa using hm
        refine aS (aB (aR ?_))
        (refine nx (aM (gN rfl) rfl rfl rfl rfl rfl) rfl ?_)
        (refine nx (aM (gN rfl) rfl rfl rfl rfl rfl) rfl ?_)
        (refine ⟨_, _, _, a_off (go_off rfl rfl rfl rfl (by first | rfl | assumption | (simp; done) | (simp [*]; done))) rfl rfl rfl, rfl, ?_⟩)
        (refine ⟨_, _, _, a_off (go_off rfl rfl rfl rfl (by first | rfl | assumption | (simp; done) | (simp [*]; done))) rfl rfl rfl, rfl, ?_⟩)
        (refine ⟨_, _, _, a_off (go_off rfl rfl rfl rfl (by first | rfl | assumption | (simp; done) | (simp [*]; done))) rfl rfl rfl, rfl, ?_⟩)
        (refine ⟨_, _, _, a_off (go_off rfl rfl rfl rfl (by first | rfl | assumption | (simp; done) | (simp [*]; done))) rfl rfl rfl, rfl, ?_⟩)
        (refine ⟨_, _, _, a_off (go_off rfl rfl rfl rfl (by first | rfl | assumption | (simp; done) | (simp [*]; done))) rfl rfl rfl, rfl, ?_⟩)
        (refine ⟨_, _, _, a_off (go_off rfl rfl rfl rfl (by first | rfl | assumption | (simp; done) | (simp [*]; done))) rfl rfl rfl, rfl, ?_⟩)
        (refine ⟨_, _, _, aPt (gN rfl) rfl rfl rfl rfl rfl ?hb rfl, rfl, ?_⟩; case hb => (first | rfl | assumption | (simp; done)))
        (refine nx (aA (gN rfl) rfl rfl rfl rfl rfl) rfl ?_)
        show AWp _ _ _ _ _ _ _
        refine aR ?_
        (refine nx (aM (gN rfl) rfl rfl rfl rfl rfl) rfl ?_)
        (refine nx (a_add (gN rfl) rfl rfl rfl rfl rfl rfl (by first | omega | (simp only [List.length_map, List.length_append, List.length_cons, List.length_nil] <;> omega) | (simp <;> omega))) rfl ?_)
        (refine nx (aA (gN rfl) rfl rfl rfl rfl rfl) rfl ?_)
        refine ⟨hkl, wk_sub ⟨rfl, rfl, rfl, rfl, rfl, ?_, rfl, trivial⟩⟩
        have : decide (n ∈ out.take (k + 1)) = true := by rw [decide_eq_true_eq, mem_take_succ hx]; exact .inl hm
        rw [this]
        rfl
      · have hg : decide (n ∈ out.take k) = false := by simpa using hm
        refine aS (aB (aR ?_))
        (refine nx (aM (gN rfl) rfl rfl rfl rfl rfl) rfl ?_)
        (refine nx (aM (gN rfl) rfl rfl rfl rfl rfl) rfl ?_)
        (refine nx (aM (gd_on rfl rfl rfl rfl (by first | rfl | assumption | (simp; done))) rfl rfl rfl rfl rfl) rfl ?_)
        (refine nx (aM (gd_on rfl rfl rfl rfl (by first | rfl | assumption | (simp; done))) rfl rfl rfl rfl rfl) rfl ?_)
        (refine nx (a_index (gd_on rfl rfl rfl rfl (by first | rfl | assumption | (simp; done))) rfl rfl rfl rfl rfl rfl rfl rfl rfl (by assumption) rfl (by first | assumption | exact sZ rfl | exact Tm.size_all _ | exact Bd.size_all _ | exact ints_size _ | exact bys_size _ | exact Lt.size_all _)) rfl ?_)
        (refine nx (a_load_ad (gd_on rfl rfl rfl rfl (by first | rfl | assumption | (simp; done))) rfl rfl rfl rfl rfl rfl rfl rfl rfl) rfl ?_)
        (refine nx (aM (gd_on rfl rfl rfl rfl (by first | rfl | assumption | (simp; done))) rfl rfl rfl rfl rfl) rfl ?_)
        (refine nx (a_eql (gd_on rfl rfl rfl rfl (by first | rfl | assumption | (simp; done))) rfl rfl rfl rfl rfl rfl) rfl ?_)
        (refine ⟨_, _, _, aPf (gN rfl) rfl rfl rfl rfl rfl ?hb rfl, rfl, ?_⟩; case hb => (first | rfl | assumption | (simp; done)))
        (refine nx (aA (gN rfl) rfl rfl rfl rfl rfl) rfl ?_)
        show AWp _ _ _ _ _ _ _
        refine aR ?_
        (refine nx (aM (gN rfl) rfl rfl rfl rfl rfl) rfl ?_)
        (refine nx (a_add (gN rfl) rfl rfl rfl rfl rfl rfl (by first | omega | (simp only [List.length_map, List.length_append, List.length_cons, List.length_nil] <;> omega) | (simp <;> omega))) rfl ?_)
        (refine nx (aA (gN rfl) rfl rfl rfl rfl rfl) rfl ?_)
        refine ⟨hkl, wk_sub ⟨rfl, rfl, rfl, rfl, rfl, ?_, rfl, trivial⟩⟩
        have : decide (n ∈ out.take (k + 1)) = decide (x = n) := by rw [decide_eq_decide, mem_take_succ hx]; simp [hm]
        rw [this]
        rfl
    · have hkl : k = out.length := by
        simp only [List.length_map, decide_eq_false_iff_not] at hc
        omega
      subst hkl
      rw [List.take_length]
      show AWp _ _ _ _ _ _ _
      refine aS (aR ?_)
      (refine nx (aM (gN rfl) rfl rfl rfl rfl rfl) rfl ?_)
      (refine nx (a_not (gN rfl) rfl rfl rfl rfl rfl) rfl ?_)
      show AWp _ _ _ _ _ _ _
      refine aC rfl (fun hc => ?_) (fun hc => aK ?_)
      · have hm : n ∉ out := by simpa using hc
        refine aR ?_
        (refine nx (aM (gN rfl) rfl rfl rfl rfl rfl) rfl ?_)
        (refine nx (aM (gN rfl) rfl rfl rfl rfl rfl) rfl ?_)
        (refine nx (a_bslice (gN rfl) rfl rfl rfl rfl rfl rfl rfl rfl rfl rfl rfl rfl rfl) rfl ?_)
        (refine nx (a_app (gN rfl) rfl rfl rfl rfl rfl rfl rfl rfl rfl rfl rfl rfl rfl rfl rfl (by first | assumption | exact sZ rfl | exact Tm.size_all _ | exact Bd.size_all _ | exact ints_size _ | exact bys_size _ | exact Lt.size_all _) (by first | assumption | exact sZ rfl | exact Tm.size_all _ | exact Bd.size_all _ | exact ints_size _ | exact bys_size _ | exact Lt.size_all _) (by first | omega | (simp only [List.length_map, List.length_append, List.length_cons, List.length_nil] <;> omega) | (simp <;> omega))) rfl ?_)
        (refine nx (aA (gN rfl) rfl rfl rfl rfl rfl) rfl ?_)
        show AWp _ _ _ _ _ _ _
        refine aR ?_
        (refine nx (aM (gN rfl) rfl rfl rfl rfl rfl) rfl ?_)
        (refine nx (a_add (gN rfl) rfl rfl rfl rfl rfl rfl (by first | omega | (simp only [List.length_map, List.length_append, List.length_cons, List.length_nil] <;> omega) | (simp <;> omega))) rfl ?_)
        (refine nx (aA (gN rfl) rfl rfl rfl rfl rfl) rfl ?_)
        refine ⟨hil, Wk.trans (wk_sub (s' := [(3, .val (.lst (l.map Tm.cv))), (4, .own (.lst ((varsF (l.take (i + 1))).map CV.i)) 300049), (300049, .tok 3 1), (5, .val (.i ((i + 1 : Nat) : Int)))]) ⟨rfl, ?_, rfl, rfl, trivial⟩) (wk_ren 300049 200049 rfl rfl rfl rfl)⟩
        have : varsF (l.take (i + 1)) = out ++ [n] := by
          rw [htk, varsF_snoc, ← ho]
          unfold varS
          rw [if_pos hsf, ← hn, if_neg hm]
        rw [this, List.map_append]
        rfl
      · have hm : n ∈ out := by simpa using hc
        show AWp _ _ _ _ _ _ _
        refine aR ?_
        (refine nx (aM (gN rfl) rfl rfl rfl rfl rfl) rfl ?_)
        (refine nx (a_add (gN rfl) rfl rfl rfl rfl rfl rfl (by first | omega | (simp only [List.length_map, List.length_append, List.length_cons, List.length_nil] <;> omega) | (simp <;> omega))) rfl ?_)
        (refine nx (aA (gN rfl) rfl rfl rfl rfl rfl) rfl ?_)
        refine ⟨hil, wk_sub ⟨rfl, ?_, rfl, rfl, trivial⟩⟩
        have : varsF (l.take (i + 1)) = out := by
          rw [htk, varsF_snoc, ← ho]
          unfold varS
          rw [if_pos hsf, ← hn, if_pos hm]
        rw [this]
        rfl
  · have hil : i = l.length := by
      simp only [List.length_map, decide_eq_false_iff_not] at hc
      omega
    subst hil
    rw [List.take_length]
    show AWp _ _ _ _ _ _ _
    refine aS (aR ?_)
    (refine nx (aM (gN rfl) rfl rfl rfl rfl rfl) rfl ?_)
    (refine nx (aA (gN rfl) rfl rfl rfl rfl rfl) rfl ?_)
    show AWp _ _ _ _ _ _ _
    exact aT (And.intro (.inr rfl) rfl)
set_option maxHeartbeats 1000000 in
-- 
theorem of_abs (W : World) : ∀ (t : Tm), t.ok → AFun Tryz.prog W 26 [t.cw] (.val t.cw) := by
  intro t
  induction t using Tm.ind with
  | h f l ih =>
  intro hok
  obtain ⟨hl, hok⟩ := (Tm.ok_iff _).1 hok
  simp only at hl hok
  refine afun_of (rs := [Tm.cw ⟨f, l⟩]) Tryz.func26 Tryz.ntmps26 rfl rfl rfl rfl ?_
  intro w U hW
  refine aS (aR ?_)
  (refine nx (a_box (gN rfl) rfl rfl rfl rfl rfl) rfl ?_)
  (refine nx (a_alloc (gN rfl) rfl rfl rfl rfl rfl rfl rfl rfl rfl rfl) rfl ?_)
  show AWp _ _ _ _ _ _ _
  refine aS (aR ?_)
  (refine nx (aF (gN rfl) rfl rfl rfl rfl rfl rfl rfl rfl rfl) rfl ?_)
  (refine nx (aLb (gN rfl) rfl rfl rfl rfl rfl rfl rfl rfl rfl rfl rfl rfl) rfl ?_)
  (refine nx (a_build (gN rfl) rfl rfl rfl rfl rfl rfl rfl rfl rfl rfl rfl) rfl ?_)
  (refine nx (a_alloc (gN rfl) rfl rfl rfl rfl rfl rfl rfl rfl rfl rfl) rfl ?_)
  (refine nx (aSt (gN rfl) rfl rfl rfl rfl rfl rfl rfl rfl rfl rfl) rfl ?_)
  show AWp _ _ _ _ _ _ _
  refine aS (aS (aR ?_))
  (refine nx (aA (gN rfl) rfl rfl rfl rfl rfl) rfl ?_)
  show AWp _ _ _ _ _ _ _
  refine aB (awp_count l.length (fun k => [(1, .bp 1 0 []), (100001, .bx (Tm.cw ⟨f, l⟩)), (2, .bp 2 0 []), (100002, ⟨5, .row [.i 0, .lst []], 1, 0, [1]⟩), (3, .bp 3 0 []), (100003, ⟨5, .row [.i f, .lst ((l.take k).map Tm.cv)], 200024, 0, [1]⟩), (200024, .tok 41 2), (4, .val (.i k))])
    ((wk_nil 100003 200024 41 2 rfl rfl rfl rfl rfl rfl rfl).trans (wk_sub ⟨rfl, rfl, rfl, rfl, rfl, rfl, rfl, rfl, trivial⟩)) ?_)
  intro k hk
  refine aS (aS (aR ?_))
  (refine nx (aM (gN rfl) rfl rfl rfl rfl rfl) rfl ?_)
  (refine nx (aF (gN rfl) rfl rfl rfl rfl rfl rfl rfl rfl rfl) rfl ?_)
  (refine nx (aLb (gN rfl) rfl rfl rfl rfl rfl rfl rfl rfl rfl rfl rfl rfl) rfl ?_)
  (refine nx (a_len (gN rfl) rfl rfl rfl rfl rfl rfl rfl) rfl ?_)
  (refine nx (a_lss (gN rfl) rfl rfl rfl rfl rfl rfl) rfl ?_)
  show AWp _ _ _ _ _ _ _
  refine aC rfl (fun hc => ?_) (fun hc => ?_)
  · simp only [List.length_map, decide_eq_true_eq] at hc
    have hkl : k < l.length := by omega
    obtain ⟨t, ht⟩ : ∃ t, l[k]? = some t := ⟨l[k], List.getElem?_eq_getElem hkl⟩
    refine aK ?_
    show AWp _ _ _ _ _ _ _
    refine aS (aB (aD (by kernel_rfl) (by kernel_rfl) ?_))
    (refine nx (aF (gN rfl) rfl rfl rfl rfl rfl rfl rfl rfl rfl) rfl ?_)
    (refine nx (a_load_tok (gN rfl) rfl rfl rfl rfl rfl rfl rfl rfl rfl rfl rfl rfl rfl) rfl ?_)
    (refine nx (aF (gN rfl) rfl rfl rfl rfl rfl rfl rfl rfl rfl) rfl ?_)
    (refine nx (aLb (gN rfl) rfl rfl rfl rfl rfl rfl rfl rfl rfl rfl rfl rfl) rfl ?_)
    (refine nx (aM (gN rfl) rfl rfl rfl rfl rfl) rfl ?_)
    (refine nx (a_index (j := _) (gN rfl) rfl rfl rfl rfl rfl rfl rfl rfl rfl (Tm.map_at ht) rfl (Tm.size_all l)) rfl ?_)
    (refine nx (a_load_ad (gN rfl) rfl rfl rfl rfl rfl rfl rfl rfl rfl) rfl ?_)
    (refine nx (a_call (gN rfl) rfl rfl rfl rfl rfl ((ih t (List.mem_of_getElem? ht) (hok t (List.mem_of_getElem? ht))).up hW)) rfl ?_)
    (refine nx (a_bslice (gN rfl) rfl rfl rfl rfl rfl rfl rfl rfl rfl rfl rfl rfl rfl) rfl ?_)
    (refine nx (a_app (gN rfl) rfl rfl rfl rfl rfl rfl rfl rfl rfl rfl rfl rfl rfl rfl rfl (by first | assumption | exact sZ rfl | exact Tm.size_all _ | exact Bd.size_all _ | exact ints_size _ | exact bys_size _ | exact Lt.size_all _) (by first | assumption | exact sZ rfl | exact Tm.size_all _ | exact Bd.size_all _ | exact ints_size _ | exact bys_size _ | exact Lt.size_all _) (by first | omega | (simp only [List.length_map, List.length_append, List.length_cons, List.length_nil] <;> omega) | (simp <;> omega))) rfl ?_)
    (refine nx (aF (gN rfl) rfl rfl rfl rfl rfl rfl rfl rfl rfl) rfl ?_)
    (refine nx (a_store (gN rfl) rfl rfl rfl rfl rfl rfl rfl rfl rfl rfl) rfl ?_)
    refine ⟨by kernel_rfl, ?_⟩
    show AWp _ _ _ _ _ _ _
    refine aR ?_
    (refine nx (aM (gN rfl) rfl rfl rfl rfl rfl) rfl ?_)
    (refine nx (a_add (gN rfl) rfl rfl rfl rfl rfl rfl (by first | omega | (simp only [List.length_map, List.length_append, List.length_cons, List.length_nil] <;> omega) | (simp <;> omega))) rfl ?_)
    (refine nx (aA (gN rfl) rfl rfl rfl rfl rfl) rfl ?_)
    refine ⟨hkl, Wk.trans (wk_sub (s' := [(1, .bp 1 0 []), (100001, .bx (Tm.cw ⟨f, l⟩)), (2, .bp 2 0 []), (100002, ⟨5, .row [.i 0, .lst []], 1, 0, [1]⟩), (3, .bp 3 0 []), (100003, ⟨5, .row [.i f, .lst ((l.take (k + 1)).map Tm.cv)], 300024, 0, [1]⟩), (300024, .tok 41 2), (4, .val (.i ((k + 1 : Nat) : Int)))]) ⟨rfl, rfl, rfl, rfl, rfl, ?_, rfl, rfl, trivial⟩) (wk_ren 300024 200024 rfl rfl rfl rfl)⟩
    rw [List.take_add_one, ht, List.map_append]
    simp only [Option.toList_some, List.map_cons, List.map_nil, Tm.cv_eq]
    rfl
  · refine aE ?_
    show AWp _ _ _ _ _ _ _
    have hkl : k = l.length := by
      simp only [List.length_map, decide_eq_false_iff_not] at hc
      omega
    subst hkl
    rw [List.take_length]
    refine aS (aR ?_)
    (refine nx (aL (gN rfl) rfl rfl rfl rfl rfl rfl rfl rfl rfl rfl rfl rfl) rfl ?_)
    (refine nx (aSt (gN rfl) rfl rfl rfl rfl rfl rfl rfl rfl rfl rfl) rfl ?_)
    show AWp _ _ _ _ _ _ _
    exact aT ⟨.inr rfl, rfl⟩
def appR (l : List Bd) : Tm → Tm
  | ⟨f, ts⟩ => if f < 0 then imgB l (-1 - f) else ⟨f, ts.map (appR l)⟩
theorem appR_var {l : List Bd} {t : Tm} (h : t.f < 0) : appR l t = imgB l (-1 - t.f) := by cases t; rw [appR, if_pos h]
theorem appR_sym {l : List Bd} {t : Tm} (h : ¬ t.f < 0) : appR l t = ⟨t.f, t.l.map (appR l)⟩ := by cases t; rw [appR, if_neg h]
theorem appR_strip (l : List Bd) (t : Tm) : (appR l t).strip = (repT (imgB l) t).strip := by
  induction t using Tm.indp with
  | h t ih =>
    by_cases h : t.f < 0
    · rw [appR_var h, repT_var h, Tm.strip_strip]
    · rw [appR_sym h, repT_sym h, Tm.strip_eq, Tm.strip_eq, Tm.ps_of_sym (t := ⟨t.f, _⟩) (by show 0 ≤ t.f; omega), Tm.ps_of_sym (t := ⟨t.f, _⟩) (by show 0 ≤ t.f; omega)]
      rw [Tm.ps_of_sym (by omega)] at ih
      simp only [List.map_map]
      congr 1
      exact List.map_congr_left fun s hs => ih s hs
theorem appR_ok {l : List Bd} {t : Tm} (h : t.ok) (hi : ∀ b ∈ l, b.t.ok) : (appR l t).ok := by
  induction t using Tm.ind with
  | h f ts ih =>
    obtain ⟨h1, h2⟩ := (Tm.ok_iff _).1 h
    simp only at h1 h2
    by_cases hf : f < 0
    · rw [appR_var hf]; exact imgB_ok2 hi _
    · rw [appR_sym hf]
      refine (Tm.ok_iff _).2 ⟨by simpa using h1, fun s hs => ?_⟩
      obtain ⟨u, hu, rfl⟩ := List.mem_map.1 hs
      exact ih u hu (h2 u hu)
-- 
set_option maxHeartbeats 2000000 in
theorem refApply_abs (W : World) (l : List Bd) (hl : l.length ≤ 1000000) : ∀ (t : Tm), t.rng → t.ok → AFun Tryz.prog W 59 [.lst (l.map Bd.cv), t.cw] (.val (appR l t).cw) := by
  have hsz := Bd.size_all l
  intro t
  induction t using Tm.ind with
  | h f ts ih =>
  intro hr hok
  obtain ⟨hlt, hok⟩ := (Tm.ok_iff _).1 hok
  have hr := (Tm.rng_iff _).1 hr
  simp only at hlt hok hr
  have hszt := Tm.size_all ts
  refine afun_of (rs := [(appR l ⟨f, ts⟩).cw]) Tryz.func59 Tryz.ntmps59 rfl rfl rfl rfl ?_
  intro w U hW
  refine aS (aR ?_)
  (refine nx (a_box (gN rfl) rfl rfl rfl rfl rfl) rfl ?_)
  (refine nx (a_alloc (gN rfl) rfl rfl rfl rfl rfl rfl rfl rfl rfl rfl) rfl ?_)
  show AWp _ _ _ _ _ _ _
  refine aS (aS (aR ?_))
  (refine nx (aF (gN rfl) rfl rfl rfl rfl rfl rfl rfl rfl rfl) rfl ?_)
  (refine nx (aLb (gN rfl) rfl rfl rfl rfl rfl rfl rfl rfl rfl rfl rfl rfl) rfl ?_)
  (refine nx (a_lss (gN rfl) rfl rfl rfl rfl rfl rfl) rfl ?_)
  show AWp _ _ _ _ _ _ _
  refine aC rfl (fun hc => ?_) (fun hc => aK ?_)
  · have hf : f < 0 := by simpa using hc
    rw [appR_var hf]
    refine aS (aS (aR ?_))
    (refine nx (aA (gN rfl) rfl rfl rfl rfl rfl) rfl ?_)
    show AWp _ _ _ _ _ _ _
    refine aB (awp_countI l.length (fun k => ∀ i c, i < k → l[i]? = some c → c.v ≠ -1 - f) (fun k => [(0, .val (.lst (l.map Bd.cv))), (3, .bp 3 0 []), (100003, .bx (Tm.cw ⟨f, ts⟩)), (4, .bp 4 0 []), (100004, ⟨5, .row [.i 0, .lst []], 1, 0, [1]⟩), (5, .val (.i k))]) (wk_sub ⟨rfl, rfl, rfl, rfl, rfl, rfl, trivial⟩) (by omega) ?_)
    intro k hk hI
    refine aS (aS (aR ?_))
    (refine nx (aM (gN rfl) rfl rfl rfl rfl rfl) rfl ?_)
    (refine nx (aM (gN rfl) rfl rfl rfl rfl rfl) rfl ?_)
    (refine nx (a_len (gN rfl) rfl rfl rfl rfl rfl rfl rfl) rfl ?_)
    (refine nx (a_lss (gN rfl) rfl rfl rfl rfl rfl rfl) rfl ?_)
    show AWp _ _ _ _ _ _ _
    refine aC rfl (fun hc => aK ?_) (fun hc => aE ?_)
    · have hkl : k < l.length := by
        simp only [List.length_map, decide_eq_true_eq] at hc
        omega
      clear hc
      obtain ⟨b, hb⟩ : ∃ b, l[k]? = some b := ⟨l[k], List.getElem?_eq_getElem hkl⟩
      have hb' := Bd.map_at hb
      show AWp _ _ _ _ _ _ _
      refine aS (aB (aS (aD (by kernel_rfl) (by kernel_rfl) ?_)))
      (refine nx (aM (gN rfl) rfl rfl rfl rfl rfl) rfl ?_)
      (refine nx (aM (gN rfl) rfl rfl rfl rfl rfl) rfl ?_)
      (refine nx (a_index (gN rfl) rfl rfl rfl rfl rfl rfl rfl rfl rfl (by assumption) rfl (by first | assumption | exact sZ rfl | exact Tm.size_all _ | exact Bd.size_all _ | exact ints_size _ | exact bys_size _ | exact Lt.size_all _)) rfl ?_)
      (refine nx (a_field_ad (gN rfl) rfl rfl rfl rfl rfl rfl rfl rfl rfl rfl rfl) rfl ?_)
      (refine nx (a_load_ad (gN rfl) rfl rfl rfl rfl rfl rfl rfl rfl rfl) rfl ?_)
      (refine nx (aF (gN rfl) rfl rfl rfl rfl rfl rfl rfl rfl rfl) rfl ?_)
      (refine nx (aLb (gN rfl) rfl rfl rfl rfl rfl rfl rfl rfl rfl rfl rfl rfl) rfl ?_)
      (refine nx (a_sub (gN rfl) rfl rfl rfl rfl rfl rfl (by first | omega | (simp only [List.length_map, List.length_append, List.length_cons, List.length_nil] <;> omega) | (simp <;> omega))) rfl ?_)
      (refine nx (a_eql (gN rfl) rfl rfl rfl rfl rfl rfl) rfl ?_)
      refine ⟨by kernel_rfl, ?_⟩
      show AWp _ _ _ _ _ _ _
      refine aC rfl (fun hc => ?_) (fun hc => aK ?_)
      · have hv : b.v = -1 - f := by simpa using hc
        have e : imgB l (-1 - f) = b.t := by unfold imgB; rw [findB_at hb hv hI]; rfl
        rw [e]
        refine aS (aR ?_)
        (refine nx (aM (gN rfl) rfl rfl rfl rfl rfl) rfl ?_)
        (refine nx (aM (gN rfl) rfl rfl rfl rfl rfl) rfl ?_)
        (refine nx (a_index (gN rfl) rfl rfl rfl rfl rfl rfl rfl rfl rfl (by assumption) rfl (by first | assumption | exact sZ rfl | exact Tm.size_all _ | exact Bd.size_all _ | exact ints_size _ | exact bys_size _ | exact Lt.size_all _)) rfl ?_)
        (refine nx (a_field_ad (gN rfl) rfl rfl rfl rfl rfl rfl rfl rfl rfl rfl rfl) rfl ?_)
        (refine nx (a_load_ad (gN rfl) rfl rfl rfl rfl rfl rfl rfl rfl rfl) rfl ?_)
        (refine nx (aSt (gN rfl) rfl rfl rfl rfl rfl rfl rfl rfl rfl rfl) rfl ?_)
        show AWp _ _ _ _ _ _ _
        exact aT (And.intro (.inr rfl) rfl)
      have hv : ¬ b.v = -1 - f := by simpa using hc
      clear hc
      show AWp _ _ _ _ _ _ _
      refine aR ?_
      (refine nx (aM (gN rfl) rfl rfl rfl rfl rfl) rfl ?_)
      (refine nx (a_add (gN rfl) rfl rfl rfl rfl rfl rfl (by first | omega | (simp only [List.length_map, List.length_append, List.length_cons, List.length_nil] <;> omega) | (simp <;> omega))) rfl ?_)
      (refine nx (aA (gN rfl) rfl rfl rfl rfl rfl) rfl ?_)
      refine ⟨hkl, fun i c hi hcc => ?_, wk_sub ⟨rfl, rfl, rfl, rfl, rfl, rfl, trivial⟩⟩
      rcases Nat.lt_or_ge i k with h | h
      · exact hI i c h hcc
      · obtain rfl : i = k := by omega
        rw [hb] at hcc
        cases hcc
        exact hv
    · have hkl : k = l.length := by
        simp only [List.length_map, decide_eq_false_iff_not] at hc
        omega
      have e : imgB l (-1 - f) = ⟨f, []⟩ := by
        unfold imgB
        rw [findB_none fun b hb => by
          obtain ⟨i, hi, he⟩ := List.mem_iff_getElem.1 hb
          exact hI i b (by omega) (by rw [List.getElem?_eq_getElem hi, he])]
        show varT (-1 - f) = _
        unfold varT
        rw [show -1 - (-1 - f) = f by omega]
      rw [e]
      show AWp _ _ _ _ _ _ _
      refine aS (aR ?_)
      (refine nx (aF (gN rfl) rfl rfl rfl rfl rfl rfl rfl rfl rfl) rfl ?_)
      (refine nx (aLb (gN rfl) rfl rfl rfl rfl rfl rfl rfl rfl rfl rfl rfl rfl) rfl ?_)
      (refine nx (a_build (gN rfl) rfl rfl rfl rfl rfl rfl rfl rfl rfl rfl rfl) rfl ?_)
      (refine nx (aSt (gN rfl) rfl rfl rfl rfl rfl rfl rfl rfl rfl rfl) rfl ?_)
      show AWp _ _ _ _ _ _ _
      exact aT (And.intro (.inr rfl) rfl)
  have hf : ¬ f < 0 := by simpa using hc
  clear hc
  rw [appR_sym hf]
  show AWp _ _ _ _ _ _ _
  refine aS (aR ?_)
  (refine nx (aF (gN rfl) rfl rfl rfl rfl rfl rfl rfl rfl rfl) rfl ?_)
  (refine nx (aLb (gN rfl) rfl rfl rfl rfl rfl rfl rfl rfl rfl rfl rfl rfl) rfl ?_)
  (refine nx (a_build (gN rfl) rfl rfl rfl rfl rfl rfl rfl rfl rfl rfl rfl) rfl ?_)
  (refine nx (a_alloc (gN rfl) rfl rfl rfl rfl rfl rfl rfl rfl rfl rfl) rfl ?_)
  (refine nx (aSt (gN rfl) rfl rfl rfl rfl rfl rfl rfl rfl rfl rfl) rfl ?_)
  show AWp _ _ _ _ _ _ _
  refine aS (aS (aR ?_))
  (refine nx (aA (gN rfl) rfl rfl rfl rfl rfl) rfl ?_)
  show AWp _ _ _ _ _ _ _
  refine aB (awp_count ts.length (fun k => [(0, .val (.lst (l.map Bd.cv))), (3, .bp 3 0 []), (100003, .bx (Tm.cw ⟨f, ts⟩)), (4, .bp 4 0 []), (100004, ⟨5, .row [.i 0, .lst []], 1, 0, [1]⟩), (6, .bp 6 0 []), (100006, ⟨5, .row [.i f, .lst (((ts.take k).map (appR l)).map Tm.cv)], 200054, 0, [1]⟩), (200054, .tok 50 2), (7, .val (.i k))])
    ((wk_nil 100006 200054 50 2 rfl rfl rfl rfl rfl rfl rfl).trans (wk_sub ⟨rfl, rfl, rfl, rfl, rfl, rfl, rfl, rfl, rfl, trivial⟩)) ?_)
  intro k hk
  refine aS (aS (aR ?_))
  (refine nx (aM (gN rfl) rfl rfl rfl rfl rfl) rfl ?_)
  (refine nx (aF (gN rfl) rfl rfl rfl rfl rfl rfl rfl rfl rfl) rfl ?_)
  (refine nx (aLb (gN rfl) rfl rfl rfl rfl rfl rfl rfl rfl rfl rfl rfl rfl) rfl ?_)
  (refine nx (a_len (gN rfl) rfl rfl rfl rfl rfl rfl rfl) rfl ?_)
  (refine nx (a_lss (gN rfl) rfl rfl rfl rfl rfl rfl) rfl ?_)
  show AWp _ _ _ _ _ _ _
  refine aC rfl (fun hc => aK ?_) (fun hc => aE ?_)
  · have hkl : k < ts.length := by
      simp only [List.length_map, decide_eq_true_eq] at hc
      omega
    clear hc
    obtain ⟨t, ht⟩ : ∃ t, ts[k]? = some t := ⟨ts[k], List.getElem?_eq_getElem hkl⟩
    have ht' := Tm.map_at ht
    have htm := List.mem_of_getElem? ht
    show AWp _ _ _ _ _ _ _
    refine aS (aB (aD (by kernel_rfl) (by kernel_rfl) ?_))
    (refine nx (aF (gN rfl) rfl rfl rfl rfl rfl rfl rfl rfl rfl) rfl ?_)
    (refine nx (a_load_tok (gN rfl) rfl rfl rfl rfl rfl rfl rfl rfl rfl rfl rfl rfl rfl) rfl ?_)
    (refine nx (aM (gN rfl) rfl rfl rfl rfl rfl) rfl ?_)
    (refine nx (aF (gN rfl) rfl rfl rfl rfl rfl rfl rfl rfl rfl) rfl ?_)
    (refine nx (aLb (gN rfl) rfl rfl rfl rfl rfl rfl rfl rfl rfl rfl rfl rfl) rfl ?_)
    (refine nx (aM (gN rfl) rfl rfl rfl rfl rfl) rfl ?_)
    (refine nx (a_index (gN rfl) rfl rfl rfl rfl rfl rfl rfl rfl rfl (by assumption) rfl (by first | assumption | exact sZ rfl | exact Tm.size_all _ | exact Bd.size_all _ | exact ints_size _ | exact bys_size _ | exact Lt.size_all _)) rfl ?_)
    (refine nx (a_load_ad (gN rfl) rfl rfl rfl rfl rfl rfl rfl rfl rfl) rfl ?_)
    (refine nx (a_call (gN rfl) rfl rfl rfl rfl rfl ((ih t htm (hr.2 t htm) (hok t htm)).up hW)) rfl ?_)
    (refine nx (a_bslice (gN rfl) rfl rfl rfl rfl rfl rfl rfl rfl rfl rfl rfl rfl rfl) rfl ?_)
    (refine nx (a_app (gN rfl) rfl rfl rfl rfl rfl rfl rfl rfl rfl rfl rfl rfl rfl rfl rfl (by first | assumption | exact sZ rfl | exact Tm.size_all _ | exact Bd.size_all _ | exact ints_size _ | exact bys_size _ | exact Lt.size_all _) (by first | assumption | exact sZ rfl | exact Tm.size_all _ | exact Bd.size_all _ | exact ints_size _ | exact bys_size _ | exact Lt.size_all _) (by first | omega | (simp only [List.length_map, List.length_append, List.length_cons, List.length_nil] <;> omega) | (simp <;> omega))) rfl ?_)
    (refine nx (aF (gN rfl) rfl rfl rfl rfl rfl rfl rfl rfl rfl) rfl ?_)
    (refine nx (a_store (gN rfl) rfl rfl rfl rfl rfl rfl rfl rfl rfl rfl) rfl ?_)
    refine ⟨by kernel_rfl, ?_⟩
    show AWp _ _ _ _ _ _ _
    refine aR ?_
    (refine nx (aM (gN rfl) rfl rfl rfl rfl rfl) rfl ?_)
    (refine nx (a_add (gN rfl) rfl rfl rfl rfl rfl rfl (by first | omega | (simp only [List.length_map, List.length_append, List.length_cons, List.length_nil] <;> omega) | (simp <;> omega))) rfl ?_)
    (refine nx (aA (gN rfl) rfl rfl rfl rfl rfl) rfl ?_)
    refine ⟨hkl, Wk.trans (wk_sub (s' := [(0, .val (.lst (l.map Bd.cv))), (3, .bp 3 0 []), (100003, .bx (Tm.cw ⟨f, ts⟩)), (4, .bp 4 0 []), (100004, ⟨5, .row [.i 0, .lst []], 1, 0, [1]⟩), (6, .bp 6 0 []), (100006, ⟨5, .row [.i f, .lst (((ts.take (k + 1)).map (appR l)).map Tm.cv)], 300054, 0, [1]⟩), (300054, .tok 50 2), (7, .val (.i ((k + 1 : Nat) : Int)))]) ⟨rfl, rfl, rfl, rfl, rfl, rfl, ?_, rfl, rfl, trivial⟩) (wk_ren 300054 200054 rfl rfl rfl rfl)⟩
    rw [List.take_add_one, ht, List.map_append, List.map_append]
    simp only [Option.toList_some, List.map_cons, List.map_nil, Tm.cv_eq]
    rfl
  · have hkl : k = ts.length := by
      simp only [List.length_map, decide_eq_false_iff_not] at hc
      omega
    subst hkl
    rw [List.take_length]
    show AWp _ _ _ _ _ _ _
    refine aS (aR ?_)
    (refine nx (aL (gN rfl) rfl rfl rfl rfl rfl rfl rfl rfl rfl rfl rfl rfl) rfl ?_)
    (refine nx (aSt (gN rfl) rfl rfl rfl rfl rfl rfl rfl rfl rfl rfl) rfl ?_)
    show AWp _ _ _ _ _ _ _
    exact aT (And.intro (.inr rfl) rfl)
end Go.Proofs.YteegmcfobgpemaaGreat
namespace Go.Proofs.YteegmcfobgpemaaGreat
set_option linter.unusedVariables false
set_option linter.unusedSimpArgs false
theorem rep_congr {f g : Int → Tm} {t : Tm} (h : ∀ v ∈ t.vs, f v = g v) : repT f t = repT g t := by
  induction t using Tm.indp with
  | h t ih =>
    by_cases hf : t.f < 0
    · rw [Tm.vs_var hf] at h
      rw [repT_var hf, repT_var hf, h _ (by simp)]
    · rw [Tm.vs_sym hf] at h
      rw [Tm.ps_of_sym (by omega)] at ih
      rw [repT_sym hf, repT_sym hf]
      congr 1
      exact List.map_congr_left fun s hs => ih s hs fun v hv => h v (List.mem_flatMap.2 ⟨s, hs, hv⟩)
theorem varT_strip (v : Int) : (varT v).strip = varT v := by
  rw [Tm.strip_eq]
  have : (varT v).ps = [] := by unfold Tm.ps varT; simp
  rw [this]; rfl
theorem rep_id (t : Tm) : repT varT t = t.strip := by
  induction t using Tm.indp with
  | h t ih =>
    by_cases hf : t.f < 0
    · rw [repT_var hf, varT_strip, Tm.strip_eq, Tm.ps_of_var hf]
      unfold varT
      rw [show -1 - (-1 - t.f) = t.f by omega]; rfl
    · rw [Tm.ps_of_sym (by omega)] at ih
      rw [repT_sym hf, Tm.strip_eq, Tm.ps_of_sym (by omega)]
      congr 1
      exact List.map_congr_left fun s hs => ih s hs
theorem rep_strip (img : Int → Tm) (t : Tm) : repT img t.strip = repT img t := by
  induction t using Tm.indp with
  | h t ih =>
    by_cases hf : t.f < 0
    · rw [repT_var hf, repT_var (by rw [Tm.strip_f]; exact hf), Tm.strip_f]
    · rw [Tm.ps_of_sym (by omega)] at ih
      rw [repT_sym hf, repT_sym (by rw [Tm.strip_f]; exact hf), Tm.strip_f, Tm.strip_l, Tm.ps_of_sym (by omega), List.map_map]
      congr 1
      exact List.map_congr_left fun s hs => ih s hs
theorem rep_bare (img : Int → Tm) (t : Tm) : (repT img t).strip = repT img t := by
  induction t using Tm.indp with
  | h t ih =>
    by_cases hf : t.f < 0
    · rw [repT_var hf, Tm.strip_strip]
    · rw [Tm.ps_of_sym (by omega)] at ih
      rw [repT_sym hf, Tm.strip_eq, Tm.ps_of_sym (t := ⟨t.f, _⟩) (by show 0 ≤ t.f; omega)]
      simp only [List.map_map]
      congr 1
      exact List.map_congr_left fun s hs => ih s hs
def ixOf : List Int → Int → Nat
  | [], _ => 0
  | x :: l, v => if x = v then 0 else ixOf l v + 1
theorem ixOf_at : ∀ {l : List Int} {v : Int}, v ∈ l → l[ixOf l v]? = some v
  | x :: l, v, h => by
    rw [ixOf]
    split
    · rename_i e; simp [e]
    · rename_i e
      rw [List.getElem?_cons_succ]
      exact ixOf_at ((List.mem_cons.1 h).resolve_left fun c => e c.symm)
def zipB (a b : List Int) : List Bd := List.zipWith (fun v u => ⟨v, varT u⟩) a b
theorem img_zip : ∀ {a b : List Int} {v : Int}, a.length = b.length → v ∈ a → imgB (zipB a b) v = varT (b.getD (ixOf a v) 0)
  | x :: a, y :: b, v, hl, h => by
    show ((findB (⟨x, varT y⟩ :: zipB a b) v).getD (varT v)) = _
    rw [findB, ixOf]
    split
    · rfl
    · rename_i e
      have := img_zip (a := a) (b := b) (v := v) (by simpa using hl) ((List.mem_cons.1 h).resolve_left fun c => e c.symm)
      rw [List.getD_cons_succ]
      exact this
theorem getD_of {l : List Int} {i : Nat} {v : Int} (h : l[i]? = some v) : l.getD i 0 = v := by rw [List.getD_eq_getElem?_getD, h]; rfl
def Tm.nv (t : Tm) : List Int := nub t.vs
theorem nv_vars (t : Tm) : varsF t.flat = t.nv := varsF_nub _
end Go.Proofs.YteegmcfobgpemaaGreat
namespace Go.Proofs.YteegmcfobgpemaaGreat
open Go.RowKit
set_option linter.unusedVariables false
set_option linter.unusedSimpArgs false
set_option maxRecDepth 100000
section
variable {α : Type} (lt : α → α → Bool) (a : Nat)
def sink : Nat → List α → List α
  | 0, L => L
  | j + 1, L => match L[j + 1]?, L[j]? with
    | some x, some y => if a < j + 1 ∧ lt x y = true then sink j ((L.set (j + 1) y).set j x) else L
    | _, _ => L
def isortN : Nat → Nat → List α → List α
  | 0, _, L => L
  | n + 1, i, L => isortN n (i + 1) (sink lt a i L)
theorem sink_len : ∀ (j : Nat) (L : List α), (sink lt a j L).length = L.length
  | 0, L => rfl
  | j + 1, L => by
    unfold sink
    split
    · split
      · rw [sink_len j]; simp
      · rfl
    · rfl
theorem sink_stop {j : Nat} {L : List α} (h : ¬ a < j) : sink lt a j L = L := by
  cases j with
  | zero => rfl
  | succ j => unfold sink; split <;> simp [h]
theorem sink_no {j : Nat} {L : List α} {x y : α} (hx : L[j + 1]? = some x) (hy : L[j]? = some y) (h : lt x y = false) : sink lt a (j + 1) L = L := by
  unfold sink; rw [hx, hy]; simp [h]
theorem sink_yes {j : Nat} {L : List α} {x y : α} (hx : L[j + 1]? = some x) (hy : L[j]? = some y) (ha : a < j + 1) (h : lt x y = true) : sink lt a (j + 1) L = sink lt a j ((L.set (j + 1) y).set j x) := by
  conv => lhs; unfold sink
  rw [hx, hy]; simp [h, ha]
theorem isortN_len : ∀ (n i : Nat) (L : List α), (isortN lt a n i L).length = L.length
  | 0, _, L => rfl
  | n + 1, i, L => by rw [isortN, isortN_len n, sink_len]
end

def ltC (cmp : Bd → Bd → Int) (x y : Bd) : Bool := decide (cmp x y < 0)
theorem set_map_cv (l : List Bd) (j : Nat) (b : Bd) : (l.map Bd.cv).set j b.cw = (l.set j b).map Bd.cv := by rw [List.map_set]; rfl

-- 
theorem insSort_abs (cmp : Bd → Bd → Int) (fc : CV) (L0 : List Bd) (a b : Nat) (ha : a ≤ L0.length) (hb : b ≤ L0.length) (hn : L0.length ≤ 1000000000) (hc : ∀ W x y, AFunW Tryz.prog W fc [x.cw, y.cw] (.val (.i (cmp x y)))) :
    AFunO Tryz.prog 183 [(400000, .mrow 112 3 (L0.map Bd.cv))] [.sl 400000 0 L0.length 3, .val (.i a), .val (.i b), .val fc] (.tup []) [(400000, .mrow 112 3 ((isortN (ltC cmp) a (b - (a + 1)) (a + 1) L0).map Bd.cv))] := by
  refine afunO_of Tryz.func183 Tryz.ntmps183 rfl rfl rfl rfl rfl rfl ?_
  intro w U hU
  obtain ⟨T, hT⟩ : ∃ T, T = isortN (ltC cmp) a (b - (a + 1)) (a + 1) L0 := ⟨_, rfl⟩
  rw [← hT]
  refine aS (aR ?_)
  (refine nx (aM (gN rfl) rfl rfl rfl rfl rfl) rfl ?_)
  (refine nx (a_add (gN rfl) rfl rfl rfl rfl rfl rfl (by first | omega | (simp only [List.length_map, List.length_append, List.length_cons, List.length_nil] <;> omega) | (simp <;> omega))) rfl ?_)
  (refine nx (aA (gN rfl) rfl rfl rfl rfl rfl) rfl ?_)
  show AWp _ _ _ _ _ _ _
  let st : Nat → List Bd → AS := fun i L => [(0, .sl 400000 0 L0.length 3), (1, .val (.i a)), (2, .val (.i b)), (3, .val fc), (8, .val (.i i)), (400000, .mrow 112 3 (L.map Bd.cv))]
  refine aB (awp_loop (fun m s => ∃ i L, m = (b + 1) - i ∧ L.length = L0.length ∧ a + 1 ≤ i ∧ isortN (ltC cmp) a (b - i) i L = T ∧ s = st i L) (s' := st (a + 1) L0) (wk_sub ⟨rfl, rfl, rfl, rfl, rfl, rfl, trivial⟩) ⟨a + 1, L0, rfl, rfl, Nat.le_refl _, hT.symm, rfl⟩ ?_)
  rintro m s ⟨i, L, rfl, hL, hi, hI, rfl⟩
  refine aS (aS (aR ?_))
  (refine nx (aM (gN rfl) rfl rfl rfl rfl rfl) rfl ?_)
  (refine nx (aM (gN rfl) rfl rfl rfl rfl rfl) rfl ?_)
  (refine nx (a_lss (gN rfl) rfl rfl rfl rfl rfl rfl) rfl ?_)
  show AWp _ _ _ _ _ _ _
  refine aC rfl (fun hlt => ?_) (fun hlt => ?_)
  · have hib : i < b := by simpa using hlt
    refine aK ?_
    show AWp _ _ _ _ _ _ _
    refine aS (aB (aS (aR ?_)))
    (refine nx (aM (gN rfl) rfl rfl rfl rfl rfl) rfl ?_)
    (refine nx (aA (gN rfl) rfl rfl rfl rfl rfl) rfl ?_)
    show AWp _ _ _ _ _ _ _
    let st2 : Nat → List Bd → AS := fun j L => [(0, .sl 400000 0 L0.length 3), (1, .val (.i a)), (2, .val (.i b)), (3, .val fc), (8, .val (.i i)), (9, .val (.i j)), (400000, .mrow 112 3 (L.map Bd.cv))]
    refine aB (awp_loop (fun m s => ∃ j L', m = j ∧ L'.length = L0.length ∧ j ≤ i ∧ sink (ltC cmp) a j L' = sink (ltC cmp) a i L ∧ s = st2 j L') (s' := st2 i L) (wk_sub ⟨rfl, rfl, rfl, rfl, rfl, rfl, rfl, trivial⟩) ⟨i, L, rfl, hL, Nat.le_refl _, rfl, rfl⟩ ?_)
    rintro m s ⟨j, L', hmj, hL', hji, hJ, rfl⟩
    by_cases hja : a < j
    · obtain ⟨j, rfl⟩ : ∃ k, j = k + 1 := ⟨j - 1, by omega⟩
      obtain ⟨x, hx⟩ : ∃ x, L'[j + 1]? = some x := ⟨L'[j + 1]'(by omega), List.getElem?_eq_getElem (by omega)⟩
      obtain ⟨y, hy⟩ : ∃ y, L'[j]? = some y := ⟨L'[j]'(by omega), List.getElem?_eq_getElem (by omega)⟩
      have hx' := Bd.map_at hx
      have hy' := Bd.map_at hy
      have g : decide (((j + 1 : Nat) : Int) > (a : Int)) = true := by simp; omega
      refine aS (aS (aD (by kernel_rfl) (by kernel_rfl) ?_))
      (refine nx (aM (gN rfl) rfl rfl rfl rfl rfl) rfl ?_)
      (refine nx (aM (gN rfl) rfl rfl rfl rfl rfl) rfl ?_)
      (refine nx (a_gtr (gN rfl) rfl rfl rfl rfl rfl rfl) rfl ?_)
      (refine nx (aM (gN rfl) rfl rfl rfl rfl rfl) rfl ?_)
      (refine nx (aM (gd_on rfl rfl rfl rfl (by first | rfl | assumption | (simp; done))) rfl rfl rfl rfl rfl) rfl ?_)
      (refine nx (aM (gd_on rfl rfl rfl rfl (by first | rfl | assumption | (simp; done))) rfl rfl rfl rfl rfl) rfl ?_)
      (refine nx (aM (gd_on rfl rfl rfl rfl (by first | rfl | assumption | (simp; done))) rfl rfl rfl rfl rfl) rfl ?_)
      (refine nx (aIm (k := j + 1) (gd_on rfl rfl rfl rfl (by first | rfl | assumption | (simp; done))) rfl rfl rfl rfl rfl rfl rfl rfl rfl (by first | rfl | omega | (simp only [List.length_set, List.length_map, List.length_append, List.length_cons, List.length_nil] <;> omega) | (simp <;> omega))) rfl ?_)
      (refine nx (a_loadM (gd_on rfl rfl rfl rfl (by first | rfl | assumption | (simp; done))) rfl rfl rfl rfl rfl rfl rfl rfl (hx') rfl (by first | rfl | omega | (simp only [List.length_set, List.length_map, List.length_append, List.length_cons, List.length_nil] <;> omega) | (simp <;> omega)) rfl rfl) rfl ?_)
      (refine nx (aM (gd_on rfl rfl rfl rfl (by first | rfl | assumption | (simp; done))) rfl rfl rfl rfl rfl) rfl ?_)
      (refine nx (aM (gd_on rfl rfl rfl rfl (by first | rfl | assumption | (simp; done))) rfl rfl rfl rfl rfl) rfl ?_)
      (refine nx (a_sub (gd_on rfl rfl rfl rfl (by first | rfl | assumption | (simp; done))) rfl rfl rfl rfl rfl rfl (by first | omega | (simp only [List.length_map, List.length_append, List.length_cons, List.length_nil] <;> omega) | (simp <;> omega))) rfl ?_)
      (refine nx (aIm (k := j) (gd_on rfl rfl rfl rfl (by first | rfl | assumption | (simp; done))) rfl rfl rfl rfl rfl rfl rfl rfl rfl (by first | rfl | omega | (simp only [List.length_set, List.length_map, List.length_append, List.length_cons, List.length_nil] <;> omega) | (simp <;> omega))) rfl ?_)
      (refine nx (a_loadM (gd_on rfl rfl rfl rfl (by first | rfl | assumption | (simp; done))) rfl rfl rfl rfl rfl rfl rfl rfl (hy') rfl (by first | rfl | omega | (simp only [List.length_set, List.length_map, List.length_append, List.length_cons, List.length_nil] <;> omega) | (simp <;> omega)) rfl rfl) rfl ?_)
      (refine nx (a_callw (gd_on rfl rfl rfl rfl (by first | rfl | assumption | (simp; done))) rfl rfl rfl rfl rfl rfl (hc _ x y)) rfl ?_)
      (refine nx (a_lss (gd_on rfl rfl rfl rfl (by first | rfl | assumption | (simp; done))) rfl rfl rfl rfl rfl rfl) rfl ?_)
      (refine ⟨_, _, _, aPt (gN rfl) rfl rfl rfl rfl rfl ?hb rfl, rfl, ?_⟩; case hb => (first | rfl | assumption | (simp; done)))
      refine ⟨by kernel_rfl, ?_⟩
      show AWp _ _ _ _ _ _ _
      refine aC rfl (fun hc1 => ?_) (fun hc1 => ?_)
      · have hlt2 : ltC cmp x y = true := hc1
        refine aK ?_
        show AWp _ _ _ _ _ _ _
        refine AWp.wk (wk_sub (s' := st2 (j + 1) L') ⟨rfl, rfl, rfl, rfl, rfl, rfl, rfl, trivial⟩) ?_
        refine aS (aB (aD (by kernel_rfl) (by kernel_rfl) ?_))
        (refine nx (aM (gN rfl) rfl rfl rfl rfl rfl) rfl ?_)
        (refine nx (aM (gN rfl) rfl rfl rfl rfl rfl) rfl ?_)
        (refine nx (aM (gN rfl) rfl rfl rfl rfl rfl) rfl ?_)
        (refine nx (aM (gN rfl) rfl rfl rfl rfl rfl) rfl ?_)
        (refine nx (a_sub (gN rfl) rfl rfl rfl rfl rfl rfl (by first | omega | (simp only [List.length_map, List.length_append, List.length_cons, List.length_nil] <;> omega) | (simp <;> omega))) rfl ?_)
        (refine nx (aM (gN rfl) rfl rfl rfl rfl rfl) rfl ?_)
        (refine nx (aM (gN rfl) rfl rfl rfl rfl rfl) rfl ?_)
        (refine nx (a_sub (gN rfl) rfl rfl rfl rfl rfl rfl (by first | omega | (simp only [List.length_map, List.length_append, List.length_cons, List.length_nil] <;> omega) | (simp <;> omega))) rfl ?_)
        (refine nx (aIm (k := j) (gN rfl) rfl rfl rfl rfl rfl rfl rfl rfl rfl (by first | rfl | omega | (simp only [List.length_set, List.length_map, List.length_append, List.length_cons, List.length_nil] <;> omega) | (simp <;> omega))) rfl ?_)
        (refine nx (a_loadM (gN rfl) rfl rfl rfl rfl rfl rfl rfl rfl (hy') rfl (by first | rfl | omega | (simp only [List.length_set, List.length_map, List.length_append, List.length_cons, List.length_nil] <;> omega) | (simp <;> omega)) rfl rfl) rfl ?_)
        (refine nx (aM (gN rfl) rfl rfl rfl rfl rfl) rfl ?_)
        (refine nx (aM (gN rfl) rfl rfl rfl rfl rfl) rfl ?_)
        (refine nx (aIm (k := j + 1) (gN rfl) rfl rfl rfl rfl rfl rfl rfl rfl rfl (by first | rfl | omega | (simp only [List.length_set, List.length_map, List.length_append, List.length_cons, List.length_nil] <;> omega) | (simp <;> omega))) rfl ?_)
        (refine nx (a_loadM (gN rfl) rfl rfl rfl rfl rfl rfl rfl rfl (hx') rfl (by first | rfl | omega | (simp only [List.length_set, List.length_map, List.length_append, List.length_cons, List.length_nil] <;> omega) | (simp <;> omega)) rfl rfl) rfl ?_)
        (refine nx (aIm (k := j + 1) (gN rfl) rfl rfl rfl rfl rfl rfl rfl rfl rfl (by first | rfl | omega | (simp only [List.length_set, List.length_map, List.length_append, List.length_cons, List.length_nil] <;> omega) | (simp <;> omega))) rfl ?_)
        (refine nx (a_storeM (gN rfl) rfl rfl rfl rfl rfl rfl (hx') rfl rfl (by first | rfl | omega | (simp only [List.length_set, List.length_map, List.length_append, List.length_cons, List.length_nil] <;> omega) | (simp <;> omega)) rfl) rfl ?_)
        (refine nx (aIm (k := j) (gN rfl) rfl rfl rfl rfl rfl rfl rfl rfl rfl (by first | rfl | omega | (simp only [List.length_set, List.length_map, List.length_append, List.length_cons, List.length_nil] <;> omega) | (simp <;> omega))) rfl ?_)
        (refine nx (a_storeM (gN rfl) rfl rfl rfl rfl rfl rfl ((by rw [List.getElem?_set_ne (by omega)]; exact hy')) rfl rfl (by first | rfl | omega | (simp only [List.length_set, List.length_map, List.length_append, List.length_cons, List.length_nil] <;> omega) | (simp <;> omega)) rfl) rfl ?_)
        refine ⟨by kernel_rfl, ?_⟩
        show AWp _ _ _ _ _ _ _
        refine aR ?_
        (refine nx (aM (gN rfl) rfl rfl rfl rfl rfl) rfl ?_)
        (refine nx (a_sub (gN rfl) rfl rfl rfl rfl rfl rfl (by first | omega | (simp only [List.length_map, List.length_append, List.length_cons, List.length_nil] <;> omega) | (simp <;> omega))) rfl ?_)
        (refine nx (aA (gN rfl) rfl rfl rfl rfl rfl) rfl ?_)
        refine ⟨j, st2 j ((L'.set (j + 1) y).set j x), by omega, ⟨j, _, rfl, by simp [hL'], by omega, ?_, rfl⟩, wk_sub ⟨rfl, rfl, rfl, rfl, rfl, ?_, ?_, trivial⟩⟩
        · rw [← hJ, sink_yes _ _ hx hy hja hlt2]
        · show some (AV.val (.i _)) = some (AV.val (.i _))
          congr 3; omega
        · show some (AV.mrow _ _ _) = some (AV.mrow _ _ _)
          rw [set_map_cv, set_map_cv]
      · have hlt2 : ltC cmp x y = false := hc1
        refine aE ?_
        show AWp _ _ _ _ _ _ _
        refine AWp.wk (wk_sub (s' := st2 (j + 1) L') ⟨rfl, rfl, rfl, rfl, rfl, rfl, rfl, trivial⟩) ?_
        refine aR ?_
        (refine nx (aM (gN rfl) rfl rfl rfl rfl rfl) rfl ?_)
        (refine nx (a_add (gN rfl) rfl rfl rfl rfl rfl rfl (by first | omega | (simp only [List.length_map, List.length_append, List.length_cons, List.length_nil] <;> omega) | (simp <;> omega))) rfl ?_)
        (refine nx (aA (gN rfl) rfl rfl rfl rfl rfl) rfl ?_)
        refine ⟨(b + 1) - (i + 1), st (i + 1) L', by omega, ⟨i + 1, L', rfl, hL', by omega, ?_, rfl⟩, wk_sub ⟨rfl, rfl, rfl, rfl, rfl, rfl, trivial⟩⟩
        have hs : L' = sink (ltC cmp) a i L := by rw [← hJ, sink_no _ _ hx hy hlt2]
        rw [← hI, show b - i = (b - (i + 1)) + 1 by omega, isortN, hs]
    · have g : decide ((j : Int) > (a : Int)) = false := by simp; omega
      refine aS (aS (aD (by kernel_rfl) (by kernel_rfl) ?_))
      (refine nx (aM (gN rfl) rfl rfl rfl rfl rfl) rfl ?_)
      (refine nx (aM (gN rfl) rfl rfl rfl rfl rfl) rfl ?_)
      (refine nx (a_gtr (gN rfl) rfl rfl rfl rfl rfl rfl) rfl ?_)
      (refine nx (aM (gN rfl) rfl rfl rfl rfl rfl) rfl ?_)
      (refine ⟨_, _, _, a_off (go_off rfl rfl rfl rfl (by first | rfl | assumption | (simp; done) | (simp [*]; done))) rfl rfl rfl, rfl, ?_⟩)
      (refine ⟨_, _, _, a_off (go_off rfl rfl rfl rfl (by first | rfl | assumption | (simp; done) | (simp [*]; done))) rfl rfl rfl, rfl, ?_⟩)
      (refine ⟨_, _, _, a_off (go_off rfl rfl rfl rfl (by first | rfl | assumption | (simp; done) | (simp [*]; done))) rfl rfl rfl, rfl, ?_⟩)
      (refine ⟨_, _, _, a_off (go_off rfl rfl rfl rfl (by first | rfl | assumption | (simp; done) | (simp [*]; done))) rfl rfl rfl, rfl, ?_⟩)
      (refine ⟨_, _, _, a_off (go_off rfl rfl rfl rfl (by first | rfl | assumption | (simp; done) | (simp [*]; done))) rfl rfl rfl, rfl, ?_⟩)
      (refine ⟨_, _, _, a_off (go_off rfl rfl rfl rfl (by first | rfl | assumption | (simp; done) | (simp [*]; done))) rfl rfl rfl, rfl, ?_⟩)
      (refine ⟨_, _, _, a_off (go_off rfl rfl rfl rfl (by first | rfl | assumption | (simp; done) | (simp [*]; done))) rfl rfl rfl, rfl, ?_⟩)
      (refine ⟨_, _, _, a_off (go_off rfl rfl rfl rfl (by first | rfl | assumption | (simp; done) | (simp [*]; done))) rfl rfl rfl, rfl, ?_⟩)
      (refine ⟨_, _, _, a_off (go_off rfl rfl rfl rfl (by first | rfl | assumption | (simp; done) | (simp [*]; done))) rfl rfl rfl, rfl, ?_⟩)
      (refine ⟨_, _, _, a_off (go_off rfl rfl rfl rfl (by first | rfl | assumption | (simp; done) | (simp [*]; done))) rfl rfl rfl, rfl, ?_⟩)
      (refine ⟨_, _, _, a_off (go_off rfl rfl rfl rfl (by first | rfl | assumption | (simp; done) | (simp [*]; done))) rfl rfl rfl, rfl, ?_⟩)
      (refine ⟨_, _, _, a_off (go_off rfl rfl rfl rfl (by first | rfl | assumption | (simp; done) | (simp [*]; done))) rfl rfl rfl, rfl, ?_⟩)
      (refine ⟨_, _, _, aPf (gN rfl) rfl rfl rfl rfl rfl ?hb rfl, rfl, ?_⟩; case hb => (first | rfl | assumption | (simp; done)))
      refine ⟨by kernel_rfl, ?_⟩
      show AWp _ _ _ _ _ _ _
      refine aC rfl (fun hc1 => ?_) (fun hc1 => ?_)
      · cases hc1
      · refine aE ?_
        show AWp _ _ _ _ _ _ _
        refine AWp.wk (wk_sub (s' := st2 (j) L') ⟨rfl, rfl, rfl, rfl, rfl, rfl, rfl, trivial⟩) ?_
        refine aR ?_
        (refine nx (aM (gN rfl) rfl rfl rfl rfl rfl) rfl ?_)
        (refine nx (a_add (gN rfl) rfl rfl rfl rfl rfl rfl (by first | omega | (simp only [List.length_map, List.length_append, List.length_cons, List.length_nil] <;> omega) | (simp <;> omega))) rfl ?_)
        (refine nx (aA (gN rfl) rfl rfl rfl rfl rfl) rfl ?_)
        refine ⟨(b + 1) - (i + 1), st (i + 1) L', by omega, ⟨i + 1, L', rfl, hL', by omega, ?_, rfl⟩, wk_sub ⟨rfl, rfl, rfl, rfl, rfl, rfl, trivial⟩⟩
        have hs : L' = sink (ltC cmp) a i L := by rw [← hJ, sink_stop _ _ hja]
        rw [← hI, show b - i = (b - (i + 1)) + 1 by omega, isortN, hs]
  · have hib : ¬ i < b := by simpa using hlt
    refine aE ?_
    refine ⟨.inl rfl, _, Wk.refl _, rfl, ?_, trivial⟩
    show some (AV.mrow _ _ _) = some (AV.mrow _ _ _)
    rw [show b - i = 0 by omega] at hI
    rw [← hI]
    rfl
theorem cmp_abs (W : World) (x y : Int) : AFun Tryz.prog W 137 [.i x, .i y] (.val (.i (cmpZ x y))) := by
  refine ⟨ent_of Tryz.func137 rfl rfl, .inl rfl, rfl, ?_⟩
  rintro U w vs hW ⟨u1, us1, rfl, h1, u2, us2, rfl, h2, h3⟩
  have h3 : us2 = [] := h3
  subst h3
  obtain ⟨rfl, _⟩ := vrep_sc.1 h1
  obtain ⟨rfl, _⟩ := vrep_sc.1 h2
  refine (cmpInt_any x y w).mono ?_
  rintro e w' ⟨rfl, hb⟩
  exact ⟨_, rfl, vrep_sc.2 ⟨rfl, rfl⟩, hb⟩

def cmpB (x y : Bd) : Int := cmpZ x.v y.v
-- 
theorem cmpB_abs (W : World) (x y : Bd) : AFun Tryz.prog W 178 [x.cw, y.cw] (.val (.i (cmpB x y))) := by
  refine afun_of (rs := [.i (cmpB x y)]) Tryz.func178 Tryz.ntmps178 rfl rfl rfl rfl ?_
  intro w U hW
  refine aS (aR ?_)
  (refine nx (a_box (gN rfl) rfl rfl rfl rfl rfl) rfl ?_)
  (refine nx (a_box (gN rfl) rfl rfl rfl rfl rfl) rfl ?_)
  (refine nx (aA (gN rfl) rfl rfl rfl rfl rfl) rfl ?_)
  show AWp _ _ _ _ _ _ _
  refine aS (aR ?_)
  (refine nx (aF (gN rfl) rfl rfl rfl rfl rfl rfl rfl rfl rfl) rfl ?_)
  (refine nx (aLb (gN rfl) rfl rfl rfl rfl rfl rfl rfl rfl rfl rfl rfl rfl) rfl ?_)
  (refine nx (aF (gN rfl) rfl rfl rfl rfl rfl rfl rfl rfl rfl) rfl ?_)
  (refine nx (aLb (gN rfl) rfl rfl rfl rfl rfl rfl rfl rfl rfl rfl rfl rfl) rfl ?_)
  (refine nx (a_call (gN rfl) rfl rfl rfl rfl rfl (cmp_abs _ x.v y.v)) rfl ?_)
  (refine nx (aA (gN rfl) rfl rfl rfl rfl rfl) rfl ?_)
  show AWp _ _ _ _ _ _ _
  exact aT ⟨.inr rfl, rfl⟩
-- 
theorem sameB_abs (W : World) (x y : Bd) : AFun Tryz.prog W 180 [x.cw, y.cw] (.val (.b (decide (x.v = y.v)))) := by
  refine afun_of (rs := [.b (decide (x.v = y.v))]) Tryz.func180 Tryz.ntmps180 rfl rfl rfl rfl ?_
  intro w U hW
  refine aS (aR ?_)
  (refine nx (a_box (gN rfl) rfl rfl rfl rfl rfl) rfl ?_)
  (refine nx (a_box (gN rfl) rfl rfl rfl rfl rfl) rfl ?_)
  (refine nx (aA (gN rfl) rfl rfl rfl rfl rfl) rfl ?_)
  show AWp _ _ _ _ _ _ _
  refine aS (aR ?_)
  (refine nx (aF (gN rfl) rfl rfl rfl rfl rfl rfl rfl rfl rfl) rfl ?_)
  (refine nx (aLb (gN rfl) rfl rfl rfl rfl rfl rfl rfl rfl rfl rfl rfl rfl) rfl ?_)
  (refine nx (aF (gN rfl) rfl rfl rfl rfl rfl rfl rfl rfl rfl) rfl ?_)
  (refine nx (aLb (gN rfl) rfl rfl rfl rfl rfl rfl rfl rfl rfl rfl rfl rfl) rfl ?_)
  (refine nx (a_eql (gN rfl) rfl rfl rfl rfl rfl rfl) rfl ?_)
  (refine nx (aA (gN rfl) rfl rfl rfl rfl rfl) rfl ?_)
  show AWp _ _ _ _ _ _ _
  exact aT ⟨.inr rfl, rfl⟩
def idleB (b : Bd) : Bool := decide (b.t.f < 0) && decide (-1 - b.t.f = b.v)
-- 
theorem idle_abs (W : World) (b : Bd) (h1 : -9223372036854775808 ≤ b.t.f) : AFun Tryz.prog W 160 [b.cw] (.val (.b (idleB b))) := by
  refine afun_of (rs := [.b (idleB b)]) Tryz.func160 Tryz.ntmps160 rfl rfl rfl rfl ?_
  intro w U hW
  refine aS (aR ?_)
  (refine nx (a_box (gN rfl) rfl rfl rfl rfl rfl) rfl ?_)
  (refine nx (aA (gN rfl) rfl rfl rfl rfl rfl) rfl ?_)
  show AWp _ _ _ _ _ _ _
  unfold idleB
  by_cases hf : b.t.f < 0
  · have g : decide (b.t.f < 0) = true := by simpa using hf
    refine aS (aD (by kernel_rfl) (by kernel_rfl) ?_)
    (refine nx (aF (gN rfl) rfl rfl rfl rfl rfl rfl rfl rfl rfl) rfl ?_)
    (refine nx (aLb (gN rfl) rfl rfl rfl rfl rfl rfl rfl rfl rfl rfl rfl rfl) rfl ?_)
    (refine nx (a_call (gN rfl) rfl rfl rfl rfl rfl (sIsVar_abs _ b.t)) rfl ?_)
    (refine nx (aM (gN rfl) rfl rfl rfl rfl rfl) rfl ?_)
    (refine nx (aF (gd_on rfl rfl rfl rfl (by first | rfl | assumption | (simp; done))) rfl rfl rfl rfl rfl rfl rfl rfl rfl) rfl ?_)
    (refine nx (aLb (gd_on rfl rfl rfl rfl (by first | rfl | assumption | (simp; done))) rfl rfl rfl rfl rfl rfl rfl rfl rfl rfl rfl rfl) rfl ?_)
    (refine nx (a_call (gd_on rfl rfl rfl rfl (by first | rfl | assumption | (simp; done))) rfl rfl rfl rfl rfl (sNumber_abs _ b.t h1 hf)) rfl ?_)
    (refine nx (aF (gd_on rfl rfl rfl rfl (by first | rfl | assumption | (simp; done))) rfl rfl rfl rfl rfl rfl rfl rfl rfl) rfl ?_)
    (refine nx (aLb (gd_on rfl rfl rfl rfl (by first | rfl | assumption | (simp; done))) rfl rfl rfl rfl rfl rfl rfl rfl rfl rfl rfl rfl) rfl ?_)
    (refine nx (a_eql (gd_on rfl rfl rfl rfl (by first | rfl | assumption | (simp; done))) rfl rfl rfl rfl rfl rfl) rfl ?_)
    (refine ⟨_, _, _, aPt (gN rfl) rfl rfl rfl rfl rfl ?hb rfl, rfl, ?_⟩; case hb => (first | rfl | assumption | (simp; done)))
    (refine nx (aA (gN rfl) rfl rfl rfl rfl rfl) rfl ?_)
    refine ⟨by kernel_rfl, ?_⟩
    show AWp _ _ _ _ _ _ _
    refine aT ⟨.inr rfl, ?_⟩
    rw [g]; rfl
  · have g : decide (b.t.f < 0) = false := by simpa using hf
    refine aS (aD (by kernel_rfl) (by kernel_rfl) ?_)
    (refine nx (aF (gN rfl) rfl rfl rfl rfl rfl rfl rfl rfl rfl) rfl ?_)
    (refine nx (aLb (gN rfl) rfl rfl rfl rfl rfl rfl rfl rfl rfl rfl rfl rfl) rfl ?_)
    (refine nx (a_call (gN rfl) rfl rfl rfl rfl rfl (sIsVar_abs _ b.t)) rfl ?_)
    (refine nx (aM (gN rfl) rfl rfl rfl rfl rfl) rfl ?_)
    (refine ⟨_, _, _, a_off (go_off rfl rfl rfl rfl (by first | rfl | assumption | (simp; done) | (simp [*]; done))) rfl rfl rfl, rfl, ?_⟩)
    (refine ⟨_, _, _, a_off (go_off rfl rfl rfl rfl (by first | rfl | assumption | (simp; done) | (simp [*]; done))) rfl rfl rfl, rfl, ?_⟩)
    (refine ⟨_, _, _, a_off (go_off rfl rfl rfl rfl (by first | rfl | assumption | (simp; done) | (simp [*]; done))) rfl rfl rfl, rfl, ?_⟩)
    (refine ⟨_, _, _, a_off (go_off rfl rfl rfl rfl (by first | rfl | assumption | (simp; done) | (simp [*]; done))) rfl rfl rfl, rfl, ?_⟩)
    (refine ⟨_, _, _, a_off (go_off rfl rfl rfl rfl (by first | rfl | assumption | (simp; done) | (simp [*]; done))) rfl rfl rfl, rfl, ?_⟩)
    (refine ⟨_, _, _, a_off (go_off rfl rfl rfl rfl (by first | rfl | assumption | (simp; done) | (simp [*]; done))) rfl rfl rfl, rfl, ?_⟩)
    (refine ⟨_, _, _, aPf (gN rfl) rfl rfl rfl rfl rfl ?hb rfl, rfl, ?_⟩; case hb => (first | rfl | assumption | (simp; done)))
    (refine nx (aA (gN rfl) rfl rfl rfl rfl rfl) rfl ?_)
    refine ⟨by kernel_rfl, ?_⟩
    show AWp _ _ _ _ _ _ _
    refine aT ⟨.inr rfl, ?_⟩
    rw [g]; rfl

-- 
theorem cloneB_abs (L : List Bd) (hn : L.length ≤ 1000000000) :
    AFunO Tryz.prog 176 [] [.val (.lst (L.map Bd.cv))] (.sl 250007 0 L.length 3) [(250007, .mrow 112 3 (L.map Bd.cv))] := by
  have hsz := Bd.size_all L
  refine afunO_of Tryz.func176 Tryz.ntmps176 rfl rfl rfl rfl rfl rfl ?_
  intro w U hU
  refine AWp.nil 0 rfl rfl (fun hl => ?_) ?_
  · have hL : L = [] := by simpa using hl
    subst hL
    refine aS (aR ?_)
    (refine nx (aA (gN rfl) rfl rfl rfl rfl rfl) rfl ?_)
    show AWp _ _ _ _ _ _ _
    refine aS (aS (aR ?_))
    (refine nx (aM (gN rfl) rfl rfl rfl rfl rfl) rfl ?_)
    (refine nx (a_isnil (gN rfl) rfl rfl rfl rfl rfl rfl) rfl ?_)
    show AWp _ _ _ _ _ _ _
    refine aC rfl (fun _ => ?_) (fun h => by cases h)
    refine aS (aR ?_)
    (refine nx (aA (gN rfl) rfl rfl rfl rfl rfl) rfl ?_)
    show AWp _ _ _ _ _ _ _
    exact aT ⟨.inr rfl, _, wk_nilM 2 250007 112 3 rfl rfl rfl rfl rfl, rfl, rfl, trivial⟩
  · refine aS (aR ?_)
    (refine nx (aA (gN rfl) rfl rfl rfl rfl rfl) rfl ?_)
    show AWp _ _ _ _ _ _ _
    refine aS (aS (aR ?_))
    (refine nx (aM (gN rfl) rfl rfl rfl rfl rfl) rfl ?_)
    (refine nx (a_notnil (gN rfl) rfl rfl rfl rfl rfl rfl) rfl ?_)
    show AWp _ _ _ _ _ _ _
    refine aC rfl (fun h => by cases h) (fun _ => ?_)
    refine aK ?_
    show AWp _ _ _ _ _ _ _
    refine AWp.wk ((wk_not 0 rfl rfl).trans (wk_sub (s' := [(0, .val (.lst (L.map Bd.cv)))]) ⟨rfl, trivial⟩)) ?_
    refine aS (aR ?_)
    (refine nx (a_bslice0 (gN rfl) rfl rfl rfl rfl rfl rfl rfl rfl) rfl ?_)
    (refine nx (aM (gN rfl) rfl rfl rfl rfl rfl) rfl ?_)
    (refine nx (a_app0M 250007 (gN rfl) rfl rfl rfl rfl rfl rfl rfl rfl rfl rfl rfl rfl rfl rfl rfl (by first | assumption | exact sZ rfl | exact Tm.size_all _ | exact Bd.size_all _ | exact ints_size _ | exact bys_size _ | exact Lt.size_all _) (by first | omega | (simp only [List.length_map, List.length_append, List.length_cons, List.length_nil] <;> omega) | (simp <;> omega))) rfl ?_)
    (refine nx (aA (gN rfl) rfl rfl rfl rfl rfl) rfl ?_)
    show AWp _ _ _ _ _ _ _
    refine aT ⟨.inr rfl, _, Wk.refl _, ?_, rfl, trivial⟩
    show some (AV.sl _ _ _ _) = some (AV.sl _ _ _ _)
    rw [List.length_map]
    rfl

-- 
theorem stable_abs (cmp : Bd → Bd → Int) (fc : CV) (L : List Bd) (hn : L.length < 20) (hc : ∀ W x y, AFunW Tryz.prog W fc [x.cw, y.cw] (.val (.i (cmp x y)))) :
    AFunO Tryz.prog 182 [(400000, .mrow 112 3 (L.map Bd.cv))] [.sl 400000 0 L.length 3, .val (.i L.length), .val fc] (.tup []) [(400000, .mrow 112 3 ((isortN (ltC cmp) 0 (L.length - 1) 1 L).map Bd.cv))] := by
  refine afunO_of Tryz.func182 Tryz.ntmps182 rfl rfl rfl rfl rfl rfl ?_
  intro w U hU
  refine aS (aR ?_)
  (refine nx (aA (gN rfl) rfl rfl rfl rfl rfl) rfl ?_)
  show AWp _ _ _ _ _ _ _
  refine aS (aR ?_)
  (refine nx (aM (gN rfl) rfl rfl rfl rfl rfl) rfl ?_)
  (refine nx (aA (gN rfl) rfl rfl rfl rfl rfl) rfl ?_)
  (refine nx (aA (gN rfl) rfl rfl rfl rfl rfl) rfl ?_)
  show AWp _ _ _ _ _ _ _
  let st : AS := [(0, .sl 400000 0 L.length 3), (1, .val (.i L.length)), (2, .val fc), (6, .val (.i 20)), (7, .val (.i 0)), (8, .val (.i 20)), (400000, .mrow 112 3 (L.map Bd.cv))]
  refine aS (aB (awp_count 0 (fun k => st) (wk_sub ⟨rfl, rfl, rfl, rfl, rfl, rfl, rfl, trivial⟩) ?_))
  intro k hk
  refine aS (aS (aR ?_))
  (refine nx (aM (gN rfl) rfl rfl rfl rfl rfl) rfl ?_)
  (refine nx (aM (gN rfl) rfl rfl rfl rfl rfl) rfl ?_)
  (refine nx (a_leq (gN rfl) rfl rfl rfl rfl rfl rfl) rfl ?_)
  show AWp _ _ _ _ _ _ _
  refine aC rfl (fun h => ?_) (fun _ => ?_)
  · exfalso
    have h : decide ((20 : Int) ≤ (L.length : Int)) = true := h
    simp at h
    omega
  refine aE ?_
  show AWp _ _ _ _ _ _ _
  refine AWp.wk (wk_sub (s' := st) ⟨rfl, rfl, rfl, rfl, rfl, rfl, rfl, trivial⟩) ?_
  have hins := insSort_abs cmp fc L 0 L.length (by omega) (Nat.le_refl _) (by omega) hc
  rw [Nat.zero_add] at hins
  refine aS (aR ?_)
  (refine nx (aM (gN rfl) rfl rfl rfl rfl rfl) rfl ?_)
  (refine nx (aM (gN rfl) rfl rfl rfl rfl rfl) rfl ?_)
  (refine nx (aM (gN rfl) rfl rfl rfl rfl rfl) rfl ?_)
  (refine nx (aM (gN rfl) rfl rfl rfl rfl rfl) rfl ?_)
  (refine nx (a_callO (gN rfl) rfl rfl rfl rfl rfl (hins) (by repeat (first | exact trivial | refine ⟨rfl, ?_⟩)) (by first | rfl | kernel_rfl) (by first | rfl | kernel_rfl) (by first | rfl | kernel_rfl) (by first | rfl | kernel_rfl) (hnb_of (by first | rfl | kernel_rfl))) rfl ?_)
  show AWp _ _ _ _ _ _ _
  refine aB (awp_count 0 (fun k => [(1, .val (.i L.length)), (6, .val (.i 20)), (400000, .mrow 112 3 ((isortN (ltC cmp) 0 (L.length - 1) 1 L).map Bd.cv))]) (wk_sub ⟨rfl, rfl, rfl, trivial⟩) ?_)
  intro k hk
  refine aS (aS (aR ?_))
  (refine nx (aM (gN rfl) rfl rfl rfl rfl rfl) rfl ?_)
  (refine nx (aM (gN rfl) rfl rfl rfl rfl rfl) rfl ?_)
  (refine nx (a_lss (gN rfl) rfl rfl rfl rfl rfl rfl) rfl ?_)
  show AWp _ _ _ _ _ _ _
  refine aC rfl (fun h => ?_) (fun _ => ?_)
  · exfalso
    have h : decide ((20 : Int) < (L.length : Int)) = true := h
    simp at h
    omega
  refine aE ?_
  exact ⟨.inl rfl, _, Wk.refl _, rfl, rfl, trivial⟩
-- 
theorem sortStable_abs (cmp : Bd → Bd → Int) (fc : CV) (L : List Bd) (hn : L.length < 20) (hc : ∀ W x y, AFunW Tryz.prog W fc [x.cw, y.cw] (.val (.i (cmp x y)))) :
    AFunO Tryz.prog 177 [(400000, .mrow 112 3 (L.map Bd.cv))] [.sl 400000 0 L.length 3, .val fc] (.tup []) [(400000, .mrow 112 3 ((isortN (ltC cmp) 0 (L.length - 1) 1 L).map Bd.cv))] := by
  refine afunO_of Tryz.func177 Tryz.ntmps177 rfl rfl rfl rfl rfl rfl ?_
  intro w U hU
  have hst := stable_abs cmp fc L hn hc
  refine aR ?_
  (refine nx (aM (gN rfl) rfl rfl rfl rfl rfl) rfl ?_)
  (refine nx (aM (gN rfl) rfl rfl rfl rfl rfl) rfl ?_)
  (refine nx (a_lenM (gN rfl) rfl rfl rfl rfl rfl rfl rfl) rfl ?_)
  (refine nx (aM (gN rfl) rfl rfl rfl rfl rfl) rfl ?_)
  (refine nx (a_callO (gN rfl) rfl rfl rfl rfl rfl (hst) (by repeat (first | exact trivial | refine ⟨rfl, ?_⟩)) (by first | rfl | kernel_rfl) (by first | rfl | kernel_rfl) (by first | rfl | kernel_rfl) (by first | rfl | kernel_rfl) (hnb_of (by first | rfl | kernel_rfl))) rfl ?_)
  exact ⟨.inl rfl, _, Wk.refl _, rfl, rfl, trivial⟩

def idxB (q : Bd → Bool) : List Bd → Nat → Int
  | [], _ => -1
  | b :: l, i => if q b then (i : Int) else idxB q l (i + 1)
theorem idxB_none {q : Bd → Bool} : ∀ {l : List Bd} {i : Nat}, (∀ b ∈ l, q b = false) → idxB q l i = -1
  | [], _, _ => rfl
  | b :: l, i, h => by rw [idxB, h b (by simp), if_neg (by simp)]; exact idxB_none fun c hc => h c (List.mem_cons_of_mem _ hc)
theorem idxB_at {q : Bd → Bool} : ∀ {l : List Bd} {i k : Nat} {b : Bd}, l[k]? = some b → q b = true → (∀ j c, j < k → l[j]? = some c → q c = false) → idxB q l i = ((i + k : Nat) : Int)
  | [], _, _, _, h, _, _ => by simp at h
  | x :: l, i, 0, b, h, hq, _ => by simp at h; subst h; rw [idxB, if_pos hq]; rfl
  | x :: l, i, k + 1, b, h, hq, hf => by
    rw [idxB, hf 0 x (by omega) rfl, if_neg (by simp), idxB_at (k := k) (by simpa using h) hq fun j c hj hc => hf (j + 1) c (by omega) (by simpa using hc)]
    congr 1; omega
-- 
theorem indexF_abs (q : Bd → Bool) (fc : CV) (L : List Bd) (n : Nat) (hnl : n ≤ L.length) (hn : L.length ≤ 1000000000) (hc : ∀ W x, x ∈ L.take n → AFunW Tryz.prog W fc [x.cw] (.val (.b (q x)))) :
    AFunO Tryz.prog 175 [(400000, .mrow 112 3 (L.map Bd.cv))] [.sl 400000 0 n 3, .val fc] (.val (.i (idxB q (L.take n) 0))) [(400000, .mrow 112 3 (L.map Bd.cv))] := by
  refine afunO_of Tryz.func175 Tryz.ntmps175 rfl rfl rfl rfl rfl rfl ?_
  intro w U hU
  refine aS (aR ?_)
  (refine nx (aA (gN rfl) rfl rfl rfl rfl rfl) rfl ?_)
  show AWp _ _ _ _ _ _ _
  refine aS (aS (aR ?_))
  (refine nx (aM (gN rfl) rfl rfl rfl rfl rfl) rfl ?_)
  (refine nx (a_lenM (gN rfl) rfl rfl rfl rfl rfl rfl rfl) rfl ?_)
  (refine nx (aM (gN rfl) rfl rfl rfl rfl rfl) rfl ?_)
  show AWp _ _ _ _ _ _ _
  refine aB (awp_countI n (fun k => ∀ j c, j < k → (L.take n)[j]? = some c → q c = false) (fun k => [(0, .sl 400000 0 n 3), (1, .val fc), (7, .val (.i n)), (8, .val (.i k)), (400000, .mrow 112 3 (L.map Bd.cv))]) (wk_sub ⟨rfl, rfl, rfl, rfl, rfl, trivial⟩) (fun j c hj => by omega) ?_)
  intro k hk hI
  refine aS (aR ?_)
  (refine nx (a_lss (gN rfl) rfl rfl rfl rfl rfl rfl) rfl ?_)
  show AWp _ _ _ _ _ _ _
  refine aS (aC rfl (fun hlt => ?_) (fun hlt => ?_))
  · have hkl : k < n := by simpa using hlt
    obtain ⟨x, hx0⟩ : ∃ x, L[k]? = some x := ⟨L[k]'(by omega), List.getElem?_eq_getElem (by omega)⟩
    have hx : (L.take n)[k]? = some x := by rw [List.getElem?_take, if_pos hkl]; exact hx0
    have hx' := Bd.map_at hx0
    refine aK ?_
    show AWp _ _ _ _ _ _ _
    refine aS (aB (aS (aR ?_)))
    (refine nx (aM (gN rfl) rfl rfl rfl rfl rfl) rfl ?_)
    (refine nx (aA (gN rfl) rfl rfl rfl rfl rfl) rfl ?_)
    show AWp _ _ _ _ _ _ _
    refine aS (aR ?_)
    (refine nx (aM (gN rfl) rfl rfl rfl rfl rfl) rfl ?_)
    (refine nx (aM (gN rfl) rfl rfl rfl rfl rfl) rfl ?_)
    (refine nx (aM (gN rfl) rfl rfl rfl rfl rfl) rfl ?_)
    (refine nx (aIm (k := k) (gN rfl) rfl rfl rfl rfl rfl rfl rfl rfl rfl (by first | rfl | omega | (simp only [List.length_set, List.length_map, List.length_append, List.length_cons, List.length_nil] <;> omega) | (simp <;> omega))) rfl ?_)
    (refine nx (a_loadM (gN rfl) rfl rfl rfl rfl rfl rfl rfl rfl (hx') rfl (by first | rfl | omega | (simp only [List.length_set, List.length_map, List.length_append, List.length_cons, List.length_nil] <;> omega) | (simp <;> omega)) rfl rfl) rfl ?_)
    (refine nx (a_callw (gN rfl) rfl rfl rfl rfl rfl rfl (hc _ x (List.mem_of_getElem? hx))) rfl ?_)
    show AWp _ _ _ _ _ _ _
    refine aC rfl (fun hq => ?_) (fun hq => ?_)
    · refine aS (aR ?_)
      (refine nx (aM (gN rfl) rfl rfl rfl rfl rfl) rfl ?_)
      (refine nx (aA (gN rfl) rfl rfl rfl rfl rfl) rfl ?_)
      show AWp _ _ _ _ _ _ _
      refine aT ⟨.inr rfl, _, Wk.refl _, ?_, rfl, trivial⟩
      rw [idxB_at hx hq hI, Nat.zero_add]
      rfl
    · refine aK ?_
      show AWp _ _ _ _ _ _ _
      refine aR ?_
      (refine nx (a_add (gN rfl) rfl rfl rfl rfl rfl rfl (by first | omega | (simp only [List.length_map, List.length_append, List.length_cons, List.length_nil] <;> omega) | (simp <;> omega))) rfl ?_)
      (refine nx (aM (gN rfl) rfl rfl rfl rfl rfl) rfl ?_)
      refine ⟨hkl, fun j c hj hc => ?_, wk_sub ⟨rfl, rfl, rfl, rfl, rfl, trivial⟩⟩
      rcases Nat.lt_or_ge j k with h | h
      · exact hI j c h hc
      · have : j = k := by omega
        subst this
        rw [hx] at hc
        cases hc
        exact hq
  · have hkl : ¬ k < n := by simpa using hlt
    refine aE ?_
    show AWp _ _ _ _ _ _ _
    refine aS (aR ?_)
    (refine nx (aA (gN rfl) rfl rfl rfl rfl rfl) rfl ?_)
    show AWp _ _ _ _ _ _ _
    refine aT ⟨.inr rfl, _, Wk.refl _, ?_, rfl, trivial⟩
    rw [idxB_none fun b hb => ?_]
    · rfl
    · obtain ⟨j, hj⟩ := List.getElem?_of_mem hb
      have hjl : j < n := by
        rw [List.getElem?_take] at hj
        split at hj
        · assumption
        · cases hj
      exact hI j b (by omega) hj
def Bd.zero : Bd := ⟨0, ⟨0, []⟩⟩
def cptN (q : Bd → Bd → Bool) (L : List Bd) : Nat → List Bd
  | 0 => []
  | m + 1 => match L[m]?, (match m with | 0 => none | k + 1 => L[k]?) with
    | some x, some y => if q x y then cptN q L m else cptN q L m ++ [x]
    | some x, none => cptN q L m ++ [x]
    | none, _ => cptN q L m
theorem cptN_yes {q : Bd → Bd → Bool} {L : List Bd} {m : Nat} {x y : Bd} (hx : L[m + 1]? = some x) (hy : L[m]? = some y) (h : q x y = true) : cptN q L (m + 2) = cptN q L (m + 1) := by
  rw [cptN]; simp only [hx, hy, h, if_true]
theorem cptN_no {q : Bd → Bd → Bool} {L : List Bd} {m : Nat} {x y : Bd} (hx : L[m + 1]? = some x) (hy : L[m]? = some y) (h : q x y = false) : cptN q L (m + 2) = cptN q L (m + 1) ++ [x] := by
  rw [cptN]; simp [hx, hy, h]
theorem cptN_one {q : Bd → Bd → Bool} {L : List Bd} : cptN q L 1 = L.take 1 := by
  rw [cptN]
  cases L with
  | nil => rfl
  | cons x l => simp [cptN]
theorem take_snoc {α : Type} {l : List α} {k : Nat} {x : α} (h : l[k]? = some x) : l.take (k + 1) = l.take k ++ [x] := by
  rw [List.take_add_one, h]; rfl
theorem set_take {α : Type} {l : List α} {k : Nat} {x : α} (h : k < l.length) : (l.set k x).take (k + 1) = l.take k ++ [x] := by
  rw [take_snoc (x := x) (by simp [h]), List.take_set_of_le (Nat.le_refl _)]

-- 
theorem compact_abs (q : Bd → Bd → Bool) (fc : CV) (L : List Bd) (hn : L.length ≤ 1000000000) (hc : ∀ W x y, AFunW Tryz.prog W fc [x.cw, y.cw] (.val (.b (q x y)))) :
    AFunO Tryz.prog 179 [(400000, .mrow 112 3 (L.map Bd.cv))] [.sl 400000 0 L.length 3, .val fc] (.sl 400000 0 (cptN q L L.length).length 3) [(400000, .mrow 112 3 ((cptN q L L.length ++ List.replicate (L.length - (cptN q L L.length).length) Bd.zero).map Bd.cv))] := by
  refine afunO_of Tryz.func179 Tryz.ntmps179 rfl rfl rfl rfl rfl rfl ?_
  intro w U hU
  have hwhole : cptN q L L.length = L → (cptN q L L.length).length = L.length ∧ (cptN q L L.length ++ List.replicate (L.length - (cptN q L L.length).length) Bd.zero) = L := fun h => by rw [h]; simp
  refine aS (aR ?_)
  (refine nx (aA (gN rfl) rfl rfl rfl rfl rfl) rfl ?_)
  show AWp _ _ _ _ _ _ _
  refine aS (aS (aR ?_))
  (refine nx (aM (gN rfl) rfl rfl rfl rfl rfl) rfl ?_)
  (refine nx (a_lenM (gN rfl) rfl rfl rfl rfl rfl rfl rfl) rfl ?_)
  (refine nx (a_lss (gN rfl) rfl rfl rfl rfl rfl rfl) rfl ?_)
  show AWp _ _ _ _ _ _ _
  refine aC rfl (fun h2 => ?_) (fun h2 => ?_)
  · have h2 : L.length < 2 := by have h2 : decide ((L.length : Int) < 2) = true := h2; simp at h2; omega
    have hw := hwhole (by
      match L, h2 with
      | [], _ => rfl
      | [x], _ => rfl)
    refine aS (aR ?_)
    (refine nx (aM (gN rfl) rfl rfl rfl rfl rfl) rfl ?_)
    (refine nx (aA (gN rfl) rfl rfl rfl rfl rfl) rfl ?_)
    show AWp _ _ _ _ _ _ _
    refine aT ⟨.inr rfl, _, Wk.refl _, ?_, ?_, trivial⟩
    · rw [hw.1]; rfl
    · rw [hw.2]; rfl
  · have h2 : 2 ≤ L.length := by have h2 : decide ((L.length : Int) < 2) = false := h2; simp at h2; omega
    refine aK ?_
    show AWp _ _ _ _ _ _ _
    refine aS (aS (aR ?_))
    (refine nx (aA (gN rfl) rfl rfl rfl rfl rfl) rfl ?_)
    show AWp _ _ _ _ _ _ _
    let st : Nat → AS := fun k => [(0, .sl 400000 0 L.length 3), (1, .val fc), (5, .val (.i ((k + 1 : Nat) : Int))), (400000, .mrow 112 3 (L.map Bd.cv))]
    refine aB (awp_countI L.length (fun k => k + 1 ≤ L.length ∧ cptN q L (k + 1) = L.take (k + 1)) st (wk_sub ⟨rfl, rfl, rfl, rfl, trivial⟩) ⟨by omega, cptN_one⟩ ?_)
    rintro k hk ⟨hk1, hI⟩
    refine aS (aS (aR ?_))
    (refine nx (aM (gN rfl) rfl rfl rfl rfl rfl) rfl ?_)
    (refine nx (aM (gN rfl) rfl rfl rfl rfl rfl) rfl ?_)
    (refine nx (a_lenM (gN rfl) rfl rfl rfl rfl rfl rfl rfl) rfl ?_)
    (refine nx (a_lss (gN rfl) rfl rfl rfl rfl rfl rfl) rfl ?_)
    show AWp _ _ _ _ _ _ _
    refine aC rfl (fun hlt => ?_) (fun hlt => ?_)
    · have hkl : k + 1 < L.length := by have h3 : decide ((((k + 1 : Nat) : Int)) < (L.length : Int)) = true := hlt; simp at h3; omega
      obtain ⟨x, hx⟩ : ∃ x, L[k + 1]? = some x := ⟨L[k + 1], List.getElem?_eq_getElem hkl⟩
      obtain ⟨y, hy⟩ : ∃ y, L[k]? = some y := ⟨L[k]'(by omega), List.getElem?_eq_getElem (by omega)⟩
      have hx' := Bd.map_at hx
      have hy' := Bd.map_at hy
      refine aK ?_
      show AWp _ _ _ _ _ _ _
      refine aS (aB (aS (aD (by kernel_rfl) (by kernel_rfl) ?_)))
      (refine nx (aM (gN rfl) rfl rfl rfl rfl rfl) rfl ?_)
      (refine nx (aM (gN rfl) rfl rfl rfl rfl rfl) rfl ?_)
      (refine nx (aM (gN rfl) rfl rfl rfl rfl rfl) rfl ?_)
      (refine nx (aIm (k := k + 1) (gN rfl) rfl rfl rfl rfl rfl rfl rfl rfl rfl (by first | rfl | omega | (simp only [List.length_set, List.length_map, List.length_append, List.length_cons, List.length_nil] <;> omega) | (simp <;> omega))) rfl ?_)
      (refine nx (a_loadM (gN rfl) rfl rfl rfl rfl rfl rfl rfl rfl (hx') rfl (by first | rfl | omega | (simp only [List.length_set, List.length_map, List.length_append, List.length_cons, List.length_nil] <;> omega) | (simp <;> omega)) rfl rfl) rfl ?_)
      (refine nx (aM (gN rfl) rfl rfl rfl rfl rfl) rfl ?_)
      (refine nx (aM (gN rfl) rfl rfl rfl rfl rfl) rfl ?_)
      (refine nx (a_sub (gN rfl) rfl rfl rfl rfl rfl rfl (by first | omega | (simp only [List.length_map, List.length_append, List.length_cons, List.length_nil] <;> omega) | (simp <;> omega))) rfl ?_)
      (refine nx (aIm (k := k) (gN rfl) rfl rfl rfl rfl rfl rfl rfl rfl rfl (by first | rfl | omega | (simp only [List.length_set, List.length_map, List.length_append, List.length_cons, List.length_nil] <;> omega) | (simp <;> omega))) rfl ?_)
      (refine nx (a_loadM (gN rfl) rfl rfl rfl rfl rfl rfl rfl rfl (hy') rfl (by first | rfl | omega | (simp only [List.length_set, List.length_map, List.length_append, List.length_cons, List.length_nil] <;> omega) | (simp <;> omega)) rfl rfl) rfl ?_)
      (refine nx (a_callw (gN rfl) rfl rfl rfl rfl rfl rfl (hc _ x y)) rfl ?_)
      refine ⟨by kernel_rfl, ?_⟩
      show AWp _ _ _ _ _ _ _
      refine aC rfl (fun hq => ?_) (fun hq => ?_)
      · have hq : q x y = true := hq
        refine AWp.wk (wk_sub (s' := st k) ⟨rfl, rfl, rfl, rfl, trivial⟩) ?_
        refine aS (aR ?_)
        (refine nx (aM (gN rfl) rfl rfl rfl rfl rfl) rfl ?_)
        (refine nx (aM (gN rfl) rfl rfl rfl rfl rfl) rfl ?_)
        (refine nx (a_fromM (j := k + 1) (gN rfl) rfl rfl rfl rfl rfl rfl rfl rfl (by first | rfl | omega | (simp only [List.length_set, List.length_map, List.length_append, List.length_cons, List.length_nil] <;> omega) | (simp <;> omega)) (by first | rfl | omega | (simp only [List.length_set, List.length_map, List.length_append, List.length_cons, List.length_nil] <;> omega) | (simp <;> omega))) rfl ?_)
        (refine nx (aA (gN rfl) rfl rfl rfl rfl rfl) rfl ?_)
        show AWp _ _ _ _ _ _ _
        refine aS (aS (aR ?_))
        (refine nx (aA (gN rfl) rfl rfl rfl rfl rfl) rfl ?_)
        show AWp _ _ _ _ _ _ _
        let st2 : Nat → Nat → List Bd → AS := fun j kk C => [(0, .sl 400000 0 L.length 3), (1, .val fc), (5, .val (.i kk)), (6, .sl 400000 (0 + (k + 1)) (L.length - (k + 1)) 3), (7, .val (.i ((j + 1 : Nat) : Int))), (400000, .mrow 112 3 (C.map Bd.cv))]
        have h0 : cptN q L (k + 2) = L.take (k + 1) := by rw [cptN_yes hx hy hq, hI]
        refine aB (awp_loop (fun m s => ∃ j kk C, m = L.length - j ∧ k + 1 + (j + 1) ≤ L.length ∧ kk ≤ k + 1 + j ∧ C.length = L.length ∧ C.take kk = cptN q L (k + 1 + (j + 1)) ∧ (∀ i, k + 1 + j ≤ i → C[i]? = L[i]?) ∧ s = st2 j kk C) (s' := st2 0 (k + 1) L) (wk_sub ⟨rfl, rfl, rfl, rfl, rfl, rfl, trivial⟩) ⟨0, k + 1, L, rfl, by omega, by omega, rfl, h0.symm, fun _ _ => rfl, rfl⟩ ?_)
        rintro m s ⟨j, kk, C, hm, hj1, hj2, hC, hI1, hI2, rfl⟩
        refine aS (aS (aR ?_))
        (refine nx (aM (gN rfl) rfl rfl rfl rfl rfl) rfl ?_)
        (refine nx (aM (gN rfl) rfl rfl rfl rfl rfl) rfl ?_)
        (refine nx (a_lenM (gN rfl) rfl rfl rfl rfl rfl rfl rfl) rfl ?_)
        (refine nx (a_lss (gN rfl) rfl rfl rfl rfl rfl rfl) rfl ?_)
        show AWp _ _ _ _ _ _ _
        refine aC rfl (fun hlt2 => ?_) (fun hlt2 => ?_)
        · have hjl : k + 1 + (j + 1) < L.length := by have h3 : decide ((((j + 1 : Nat) : Int)) < ((L.length - (k + 1) : Nat) : Int)) = true := hlt2; simp at h3; omega
          obtain ⟨x2, hx2⟩ : ∃ x, L[k + 1 + (j + 1)]? = some x := ⟨L[k + 1 + (j + 1)], List.getElem?_eq_getElem hjl⟩
          obtain ⟨y2, hy2⟩ : ∃ y, L[k + 1 + j]? = some y := ⟨L[k + 1 + j]'(by omega), List.getElem?_eq_getElem (by omega)⟩
          have hx2' := Bd.map_at ((hI2 _ (by omega)).trans hx2)
          have hy2' := Bd.map_at ((hI2 _ (by omega)).trans hy2)
          refine aK ?_
          show AWp _ _ _ _ _ _ _
          refine aS (aB (aS (aD (by kernel_rfl) (by kernel_rfl) ?_)))
          (refine nx (aM (gN rfl) rfl rfl rfl rfl rfl) rfl ?_)
          (refine nx (aM (gN rfl) rfl rfl rfl rfl rfl) rfl ?_)
          (refine nx (aM (gN rfl) rfl rfl rfl rfl rfl) rfl ?_)
          (refine nx (aIm (k := k + 1 + (j + 1)) (gN rfl) rfl rfl rfl rfl rfl rfl rfl rfl rfl (by first | rfl | omega | (simp only [List.length_set, List.length_map, List.length_append, List.length_cons, List.length_nil] <;> omega) | (simp <;> omega))) rfl ?_)
          (refine nx (a_loadM (gN rfl) rfl rfl rfl rfl rfl rfl rfl rfl (hx2') rfl (by first | rfl | omega | (simp only [List.length_set, List.length_map, List.length_append, List.length_cons, List.length_nil] <;> omega) | (simp <;> omega)) rfl rfl) rfl ?_)
          (refine nx (aM (gN rfl) rfl rfl rfl rfl rfl) rfl ?_)
          (refine nx (aM (gN rfl) rfl rfl rfl rfl rfl) rfl ?_)
          (refine nx (a_sub (gN rfl) rfl rfl rfl rfl rfl rfl (by first | omega | (simp only [List.length_map, List.length_append, List.length_cons, List.length_nil] <;> omega) | (simp <;> omega))) rfl ?_)
          (refine nx (aIm (k := k + 1 + j) (gN rfl) rfl rfl rfl rfl rfl rfl rfl rfl rfl (by first | rfl | omega | (simp only [List.length_set, List.length_map, List.length_append, List.length_cons, List.length_nil] <;> omega) | (simp <;> omega))) rfl ?_)
          (refine nx (a_loadM (gN rfl) rfl rfl rfl rfl rfl rfl rfl rfl (hy2') rfl (by first | rfl | omega | (simp only [List.length_set, List.length_map, List.length_append, List.length_cons, List.length_nil] <;> omega) | (simp <;> omega)) rfl rfl) rfl ?_)
          (refine nx (a_callw (gN rfl) rfl rfl rfl rfl rfl rfl (hc _ x2 y2)) rfl ?_)
          (refine nx (a_not (gN rfl) rfl rfl rfl rfl rfl) rfl ?_)
          refine ⟨by kernel_rfl, ?_⟩
          show AWp _ _ _ _ _ _ _
          refine aC rfl (fun hq2 => ?_) (fun hq2 => ?_)
          · have hq2 : q x2 y2 = false := by simpa using hq2
            refine AWp.wk (wk_sub (s' := st2 j kk C) ⟨rfl, rfl, rfl, rfl, rfl, rfl, trivial⟩) ?_
            obtain ⟨z2, hz2⟩ : ∃ z, C[kk]? = some z := ⟨C[kk]'(by omega), List.getElem?_eq_getElem (by omega)⟩
            have hz2' := Bd.map_at hz2
            refine aS (aR ?_)
            (refine nx (aM (gN rfl) rfl rfl rfl rfl rfl) rfl ?_)
            (refine nx (aM (gN rfl) rfl rfl rfl rfl rfl) rfl ?_)
            (refine nx (aM (gN rfl) rfl rfl rfl rfl rfl) rfl ?_)
            (refine nx (aM (gN rfl) rfl rfl rfl rfl rfl) rfl ?_)
            (refine nx (aIm (k := k + 1 + (j + 1)) (gN rfl) rfl rfl rfl rfl rfl rfl rfl rfl rfl (by first | rfl | omega | (simp only [List.length_set, List.length_map, List.length_append, List.length_cons, List.length_nil] <;> omega) | (simp <;> omega))) rfl ?_)
            (refine nx (a_loadM (gN rfl) rfl rfl rfl rfl rfl rfl rfl rfl (hx2') rfl (by first | rfl | omega | (simp only [List.length_set, List.length_map, List.length_append, List.length_cons, List.length_nil] <;> omega) | (simp <;> omega)) rfl rfl) rfl ?_)
            (refine nx (aIm (k := kk) (gN rfl) rfl rfl rfl rfl rfl rfl rfl rfl rfl (by first | rfl | omega | (simp only [List.length_set, List.length_map, List.length_append, List.length_cons, List.length_nil] <;> omega) | (simp <;> omega))) rfl ?_)
            (refine nx (a_storeM (gN rfl) rfl rfl rfl rfl rfl rfl (hz2') rfl rfl (by first | rfl | omega | (simp only [List.length_set, List.length_map, List.length_append, List.length_cons, List.length_nil] <;> omega) | (simp <;> omega)) rfl) rfl ?_)
            show AWp _ _ _ _ _ _ _
            refine aR ?_
            (refine nx (aM (gN rfl) rfl rfl rfl rfl rfl) rfl ?_)
            (refine nx (a_add (gN rfl) rfl rfl rfl rfl rfl rfl (by first | omega | (simp only [List.length_map, List.length_append, List.length_cons, List.length_nil] <;> omega) | (simp <;> omega))) rfl ?_)
            (refine nx (aA (gN rfl) rfl rfl rfl rfl rfl) rfl ?_)
            show AWp _ _ _ _ _ _ _
            refine aR ?_
            (refine nx (aM (gN rfl) rfl rfl rfl rfl rfl) rfl ?_)
            (refine nx (a_add (gN rfl) rfl rfl rfl rfl rfl rfl (by first | omega | (simp only [List.length_map, List.length_append, List.length_cons, List.length_nil] <;> omega) | (simp <;> omega))) rfl ?_)
            (refine nx (aA (gN rfl) rfl rfl rfl rfl rfl) rfl ?_)
            refine ⟨L.length - (j + 1), st2 (j + 1) (kk + 1) (C.set kk x2), by omega, ⟨j + 1, kk + 1, C.set kk x2, rfl, by omega, by omega, by simp [hC], ?_, fun i hi => ?_, rfl⟩, wk_sub ⟨rfl, rfl, rfl, rfl, rfl, ?_, trivial⟩⟩
            · rw [set_take (by omega), hI1, show k + 1 + (j + 1 + 1) = (k + 1 + j) + 2 by omega, cptN_no (m := k + 1 + j) hx2 hy2 hq2]; rfl
            · rw [List.getElem?_set_ne (by omega)]; exact hI2 i (by omega)
            · show some (AV.mrow _ _ _) = some (AV.mrow _ _ _)
              rw [set_map_cv]
          · have hq2 : q x2 y2 = true := by simpa using hq2
            refine aK ?_
            show AWp _ _ _ _ _ _ _
            refine AWp.wk (wk_sub (s' := st2 j kk C) ⟨rfl, rfl, rfl, rfl, rfl, rfl, trivial⟩) ?_
            refine aR ?_
            (refine nx (aM (gN rfl) rfl rfl rfl rfl rfl) rfl ?_)
            (refine nx (a_add (gN rfl) rfl rfl rfl rfl rfl rfl (by first | omega | (simp only [List.length_map, List.length_append, List.length_cons, List.length_nil] <;> omega) | (simp <;> omega))) rfl ?_)
            (refine nx (aA (gN rfl) rfl rfl rfl rfl rfl) rfl ?_)
            refine ⟨L.length - (j + 1), st2 (j + 1) kk C, by omega, ⟨j + 1, kk, C, rfl, by omega, by omega, hC, ?_, fun i hi => hI2 i (by omega), rfl⟩, wk_sub ⟨rfl, rfl, rfl, rfl, rfl, rfl, trivial⟩⟩
            rw [hI1, show k + 1 + (j + 1 + 1) = (k + 1 + j) + 2 by omega, cptN_yes (m := k + 1 + j) hx2 hy2 hq2]; rfl
        · have hjl : k + 1 + (j + 1) = L.length := by have h3 : decide ((((j + 1 : Nat) : Int)) < ((L.length - (k + 1) : Nat) : Int)) = false := hlt2; simp at h3; omega
          refine aE ?_
          show AWp _ _ _ _ _ _ _
          refine AWp.wk (wk_sub (s' := st2 j kk C) ⟨rfl, rfl, rfl, rfl, rfl, rfl, trivial⟩) ?_
          refine aS (aR ?_)
          (refine nx (aM (gN rfl) rfl rfl rfl rfl rfl) rfl ?_)
          (refine nx (aM (gN rfl) rfl rfl rfl rfl rfl) rfl ?_)
          (refine nx (a_fromM (j := kk) (gN rfl) rfl rfl rfl rfl rfl rfl rfl rfl (by first | rfl | omega | (simp only [List.length_set, List.length_map, List.length_append, List.length_cons, List.length_nil] <;> omega) | (simp <;> omega)) (by first | rfl | omega | (simp only [List.length_set, List.length_map, List.length_append, List.length_cons, List.length_nil] <;> omega) | (simp <;> omega))) rfl ?_)
          (refine nx (a_clearM (gN rfl) rfl rfl rfl rfl rfl rfl rfl rfl (by first | rfl | omega | (simp only [List.length_set, List.length_map, List.length_append, List.length_cons, List.length_nil] <;> omega) | (simp <;> omega))) rfl ?_)
          show AWp _ _ _ _ _ _ _
          refine aS (aR ?_)
          (refine nx (aM (gN rfl) rfl rfl rfl rfl rfl) rfl ?_)
          (refine nx (aM (gN rfl) rfl rfl rfl rfl rfl) rfl ?_)
          (refine nx (a_uptoM (j := kk) (gN rfl) rfl rfl rfl rfl rfl rfl rfl rfl (by first | rfl | omega | (simp only [List.length_set, List.length_map, List.length_append, List.length_cons, List.length_nil] <;> omega) | (simp <;> omega)) (by first | rfl | omega | (simp only [List.length_set, List.length_map, List.length_append, List.length_cons, List.length_nil] <;> omega) | (simp <;> omega))) rfl ?_)
          (refine nx (aA (gN rfl) rfl rfl rfl rfl rfl) rfl ?_)
          show AWp _ _ _ _ _ _ _
          rw [hjl] at hI1
          have hkk : kk = (cptN q L L.length).length := by rw [← hI1]; simp; omega
          refine aT ⟨.inr rfl, _, Wk.refl _, ?_, ?_, trivial⟩
          · rw [← hkk]; rfl
          · show some (AV.mrow _ _ _) = some (AV.mrow _ _ _)
            rw [← hkk, ← hI1, List.map_append, ← List.map_take, List.map_replicate]
            simp only [Nat.zero_add]
            rw [show kk + (L.length - kk) = (C.map Bd.cv).length by simp; omega, List.drop_length, List.append_nil]
            rfl
      · have hq : q x y = false := hq
        refine aK ?_
        show AWp _ _ _ _ _ _ _
        refine AWp.wk (wk_sub (s' := st k) ⟨rfl, rfl, rfl, rfl, trivial⟩) ?_
        refine aR ?_
        (refine nx (aM (gN rfl) rfl rfl rfl rfl rfl) rfl ?_)
        (refine nx (a_add (gN rfl) rfl rfl rfl rfl rfl rfl (by first | omega | (simp only [List.length_map, List.length_append, List.length_cons, List.length_nil] <;> omega) | (simp <;> omega))) rfl ?_)
        (refine nx (aA (gN rfl) rfl rfl rfl rfl rfl) rfl ?_)
        refine ⟨by omega, ⟨by omega, ?_⟩, wk_sub ⟨rfl, rfl, rfl, rfl, trivial⟩⟩
        rw [cptN_no hx hy hq, hI, take_snoc hx]
    · have hkl : k + 1 = L.length := by have h3 : decide ((((k + 1 : Nat) : Int)) < (L.length : Int)) = false := hlt; simp at h3; omega
      refine aE ?_
      show AWp _ _ _ _ _ _ _
      rw [hkl, List.take_length] at hI
      have hw := hwhole hI
      refine aS (aR ?_)
      (refine nx (aM (gN rfl) rfl rfl rfl rfl rfl) rfl ?_)
      (refine nx (aA (gN rfl) rfl rfl rfl rfl rfl) rfl ?_)
      show AWp _ _ _ _ _ _ _
      refine aT ⟨.inr rfl, _, Wk.refl _, ?_, ?_, trivial⟩
      · rw [hw.1]; rfl
      · rw [hw.2]; rfl

theorem idxB_cases (q : Bd → Bool) (L : List Bd) : (idxB q L 0 = -1 ∧ L.filter (fun b => !q b) = L) ∨ ∃ (i : Nat) (b : Bd), idxB q L 0 = (i : Int) ∧ L[i]? = some b ∧ q b = true ∧ (L.take (i + 1)).filter (fun b => !q b) = L.take i := by
  by_cases h : ∃ b ∈ L, q b = true
  · right
    obtain ⟨k, hk, hmin⟩ := least (fun k => ∃ b, L[k]? = some b ∧ q b = true) (by
      obtain ⟨b, hb, hq⟩ := h
      obtain ⟨j, hj⟩ := List.getElem?_of_mem hb
      exact ⟨j, b, hj, hq⟩)
    obtain ⟨b, hb, hq⟩ := hk
    have hf : ∀ j c, j < k → L[j]? = some c → q c = false := fun j c hj hc => by
      cases hqc : q c with
      | false => rfl
      | true => have := hmin j ⟨c, hc, hqc⟩; omega
    refine ⟨k, b, by rw [idxB_at hb hq hf, Nat.zero_add], hb, hq, ?_⟩
    rw [take_snoc hb, List.filter_append]
    have e1 : (L.take k).filter (fun b => !q b) = L.take k := by
      rw [List.filter_eq_self]
      intro c hc
      obtain ⟨j, hj⟩ := List.getElem?_of_mem hc
      rw [List.getElem?_take] at hj
      split at hj
      · rename_i hjk
        rw [hf j c hjk hj]; rfl
      · cases hj
    rw [e1]
    simp [hq]
  · left
    have hf : ∀ b ∈ L, q b = false := fun b hb => by
      cases hqc : q b with
      | false => rfl
      | true => exact absurd ⟨b, hb, hqc⟩ h
    refine ⟨idxB_none hf, ?_⟩
    rw [List.filter_eq_self]
    intro c hc
    rw [hf c hc]; rfl

-- 
theorem delete_abs (q : Bd → Bool) (fc : CV) (L : List Bd) (n : Nat) (hnl : n ≤ L.length) (hn : L.length ≤ 1000000000) (hc : ∀ W x, x ∈ L.take n → AFunW Tryz.prog W fc [x.cw] (.val (.b (q x)))) :
    AFunO Tryz.prog 158 [(400000, .mrow 112 3 (L.map Bd.cv))] [.sl 400000 0 n 3, .val fc] (.sl 400000 0 ((L.take n).filter (fun b => !q b)).length 3) [(400000, .mrow 112 3 (((L.take n).filter (fun b => !q b) ++ (List.replicate (n - ((L.take n).filter (fun b => !q b)).length) Bd.zero ++ L.drop n)).map Bd.cv))] := by
  refine afunO_of Tryz.func158 Tryz.ntmps158 rfl rfl rfl rfl rfl rfl ?_
  intro w U hU
  obtain ⟨R, hR⟩ : ∃ R, R = (L.take n).filter (fun b => !q b) := ⟨_, rfl⟩
  rw [← hR]
  have hidx := indexF_abs q fc L n hnl hn hc
  refine aS (aR ?_)
  (refine nx (aA (gN rfl) rfl rfl rfl rfl rfl) rfl ?_)
  show AWp _ _ _ _ _ _ _
  refine aS (aR ?_)
  (refine nx (aM (gN rfl) rfl rfl rfl rfl rfl) rfl ?_)
  (refine nx (aM (gN rfl) rfl rfl rfl rfl rfl) rfl ?_)
  (refine nx (a_callO (gN rfl) rfl rfl rfl rfl rfl (hidx) (by repeat (first | exact trivial | refine ⟨rfl, ?_⟩)) (by first | rfl | kernel_rfl) (by first | rfl | kernel_rfl) (by first | rfl | kernel_rfl) (by first | rfl | kernel_rfl) (hnb_of (by first | rfl | kernel_rfl))) rfl ?_)
  (refine nx (aA (gN rfl) rfl rfl rfl rfl rfl) rfl ?_)
  show AWp _ _ _ _ _ _ _
  refine aS (aS (aR ?_))
  (refine nx (aM (gN rfl) rfl rfl rfl rfl rfl) rfl ?_)
  (refine nx (a_eql (gN rfl) rfl rfl rfl rfl rfl rfl) rfl ?_)
  show AWp _ _ _ _ _ _ _
  rcases idxB_cases q (L.take n) with ⟨hi, hf⟩ | ⟨i, b, hi, hb, hqb, hf⟩
  · rw [← hR] at hf
    have hl : R.length = n := by rw [hf]; simp; omega
    refine aC rfl (fun _ => ?_) (fun h => ?_)
    · refine aS (aR ?_)
      (refine nx (aM (gN rfl) rfl rfl rfl rfl rfl) rfl ?_)
      (refine nx (aA (gN rfl) rfl rfl rfl rfl rfl) rfl ?_)
      show AWp _ _ _ _ _ _ _
      refine aT ⟨.inr rfl, _, Wk.refl _, ?_, ?_, trivial⟩
      · rw [hl]; rfl
      · rw [hl, Nat.sub_self, List.replicate_zero, List.nil_append, hf, List.take_append_drop]; rfl
    · have h : decide (idxB q (L.take n) 0 = -1) = false := h
      rw [hi] at h
      cases h
  · have hin : i < n := by
      rw [List.getElem?_take] at hb
      split at hb
      · assumption
      · cases hb
    rw [List.take_take, Nat.min_eq_left (by omega), List.take_take, Nat.min_eq_left (by omega)] at hf
    refine aC rfl (fun h => ?_) (fun _ => ?_)
    · have h : decide (idxB q (L.take n) 0 = -1) = true := h
      rw [hi] at h
      simp at h
    refine aK ?_
    show AWp _ _ _ _ _ _ _
    refine AWp.wk (wk_sub (s' := [(0, .sl 400000 0 n 3), (1, .val fc), (5, .val (.i i)), (400000, .mrow 112 3 (L.map Bd.cv))]) ⟨rfl, rfl, by rw [← hi]; rfl, rfl, trivial⟩) ?_
    refine aS (aS (aR ?_))
    (refine nx (aM (gN rfl) rfl rfl rfl rfl rfl) rfl ?_)
    (refine nx (a_add (gN rfl) rfl rfl rfl rfl rfl rfl (by first | omega | (simp only [List.length_map, List.length_append, List.length_cons, List.length_nil] <;> omega) | (simp <;> omega))) rfl ?_)
    (refine nx (aA (gN rfl) rfl rfl rfl rfl rfl) rfl ?_)
    show AWp _ _ _ _ _ _ _
    let st : Nat → Nat → List Bd → AS := fun j ii C => [(0, .sl 400000 0 n 3), (1, .val fc), (5, .val (.i ii)), (6, .val (.i ((j + 1 : Nat) : Int))), (400000, .mrow 112 3 (C.map Bd.cv))]
    refine aB (awp_loop (fun m s => ∃ j ii C, m = n - j ∧ j + 1 ≤ n ∧ ii ≤ j ∧ C.length = L.length ∧ C.take ii = (L.take (j + 1)).filter (fun b => !q b) ∧ (∀ p, j + 1 ≤ p → C[p]? = L[p]?) ∧ s = st j ii C) (s' := st i i L) (wk_sub ⟨rfl, rfl, rfl, rfl, rfl, trivial⟩) ⟨i, i, L, rfl, by omega, Nat.le_refl _, rfl, hf.symm, fun _ _ => rfl, rfl⟩ ?_)
    rintro m s ⟨j, ii, C, hm, hj1, hj2, hC, hI1, hI2, rfl⟩
    refine aS (aS (aR ?_))
    (refine nx (aM (gN rfl) rfl rfl rfl rfl rfl) rfl ?_)
    (refine nx (aM (gN rfl) rfl rfl rfl rfl rfl) rfl ?_)
    (refine nx (a_lenM (gN rfl) rfl rfl rfl rfl rfl rfl rfl) rfl ?_)
    (refine nx (a_lss (gN rfl) rfl rfl rfl rfl rfl rfl) rfl ?_)
    show AWp _ _ _ _ _ _ _
    refine aC rfl (fun hlt => ?_) (fun hlt => ?_)
    · have hjl : j + 1 < n := by have h3 : decide ((((j + 1 : Nat) : Int)) < (n : Int)) = true := hlt; simp at h3; omega
      obtain ⟨x, hx⟩ : ∃ x, L[j + 1]? = some x := ⟨L[j + 1]'(by omega), List.getElem?_eq_getElem (by omega)⟩
      have hx' := Bd.map_at ((hI2 _ (by omega)).trans hx)
      have hxm : x ∈ L.take n := List.mem_of_getElem? (i := j + 1) (by rw [List.getElem?_take, if_pos hjl]; exact hx)
      refine aK ?_
      show AWp _ _ _ _ _ _ _
      refine aS (aB (aS (aR ?_)))
      (refine nx (aM (gN rfl) rfl rfl rfl rfl rfl) rfl ?_)
      (refine nx (aM (gN rfl) rfl rfl rfl rfl rfl) rfl ?_)
      (refine nx (aIm (k := j + 1) (gN rfl) rfl rfl rfl rfl rfl rfl rfl rfl rfl (by first | rfl | omega | (simp only [List.length_set, List.length_map, List.length_append, List.length_cons, List.length_nil] <;> omega) | (simp <;> omega))) rfl ?_)
      (refine nx (a_loadM (gN rfl) rfl rfl rfl rfl rfl rfl rfl rfl (hx') rfl (by first | rfl | omega | (simp only [List.length_set, List.length_map, List.length_append, List.length_cons, List.length_nil] <;> omega) | (simp <;> omega)) rfl rfl) rfl ?_)
      (refine nx (a_alloc (gN rfl) rfl rfl rfl rfl rfl rfl rfl rfl rfl rfl) rfl ?_)
      (refine nx (aSt (gN rfl) rfl rfl rfl rfl rfl rfl rfl rfl rfl rfl) rfl ?_)
      show AWp _ _ _ _ _ _ _
      refine aS (aR ?_)
      (refine nx (aM (gN rfl) rfl rfl rfl rfl rfl) rfl ?_)
      (refine nx (aL (gN rfl) rfl rfl rfl rfl rfl rfl rfl rfl rfl rfl rfl rfl) rfl ?_)
      (refine nx (a_callw (gN rfl) rfl rfl rfl rfl rfl rfl (hc _ x hxm)) rfl ?_)
      (refine nx (a_not (gN rfl) rfl rfl rfl rfl rfl) rfl ?_)
      show AWp _ _ _ _ _ _ _
      refine aC rfl (fun hq => ?_) (fun hq => ?_)
      · have hq : q x = false := by simpa using hq
        obtain ⟨z, hz⟩ : ∃ z, C[ii]? = some z := ⟨C[ii]'(by omega), List.getElem?_eq_getElem (by omega)⟩
        have hz' := Bd.map_at hz
        refine aS (aR ?_)
        (refine nx (aM (gN rfl) rfl rfl rfl rfl rfl) rfl ?_)
        (refine nx (aM (gN rfl) rfl rfl rfl rfl rfl) rfl ?_)
        (refine nx (aL (gN rfl) rfl rfl rfl rfl rfl rfl rfl rfl rfl rfl rfl rfl) rfl ?_)
        (refine nx (aIm (k := ii) (gN rfl) rfl rfl rfl rfl rfl rfl rfl rfl rfl (by first | rfl | omega | (simp only [List.length_set, List.length_map, List.length_append, List.length_cons, List.length_nil] <;> omega) | (simp <;> omega))) rfl ?_)
        (refine nx (a_storeM (gN rfl) rfl rfl rfl rfl rfl rfl (hz') rfl rfl (by first | rfl | omega | (simp only [List.length_set, List.length_map, List.length_append, List.length_cons, List.length_nil] <;> omega) | (simp <;> omega)) rfl) rfl ?_)
        show AWp _ _ _ _ _ _ _
        refine aR ?_
        (refine nx (aM (gN rfl) rfl rfl rfl rfl rfl) rfl ?_)
        (refine nx (a_add (gN rfl) rfl rfl rfl rfl rfl rfl (by first | omega | (simp only [List.length_map, List.length_append, List.length_cons, List.length_nil] <;> omega) | (simp <;> omega))) rfl ?_)
        (refine nx (aA (gN rfl) rfl rfl rfl rfl rfl) rfl ?_)
        show AWp _ _ _ _ _ _ _
        refine aR ?_
        (refine nx (aM (gN rfl) rfl rfl rfl rfl rfl) rfl ?_)
        (refine nx (a_add (gN rfl) rfl rfl rfl rfl rfl rfl (by first | omega | (simp only [List.length_map, List.length_append, List.length_cons, List.length_nil] <;> omega) | (simp <;> omega))) rfl ?_)
        (refine nx (aA (gN rfl) rfl rfl rfl rfl rfl) rfl ?_)
        refine ⟨n - (j + 1), st (j + 1) (ii + 1) (C.set ii x), by omega, ⟨j + 1, ii + 1, C.set ii x, rfl, by omega, by omega, by simp [hC], ?_, fun p hp => ?_, rfl⟩, wk_sub ⟨rfl, rfl, rfl, rfl, ?_, trivial⟩⟩
        · rw [set_take (by omega), hI1, take_snoc (k := j + 1) hx, List.filter_append]
          simp [hq]
        · rw [List.getElem?_set_ne (by omega)]; exact hI2 p (by omega)
        · show some (AV.mrow _ _ _) = some (AV.mrow _ _ _)
          rw [set_map_cv]
      · have hq : q x = true := by simpa using hq
        refine aK ?_
        show AWp _ _ _ _ _ _ _
        refine AWp.wk (wk_sub (s' := st j ii C) ⟨rfl, rfl, rfl, rfl, rfl, trivial⟩) ?_
        refine aR ?_
        (refine nx (aM (gN rfl) rfl rfl rfl rfl rfl) rfl ?_)
        (refine nx (a_add (gN rfl) rfl rfl rfl rfl rfl rfl (by first | omega | (simp only [List.length_map, List.length_append, List.length_cons, List.length_nil] <;> omega) | (simp <;> omega))) rfl ?_)
        (refine nx (aA (gN rfl) rfl rfl rfl rfl rfl) rfl ?_)
        refine ⟨n - (j + 1), st (j + 1) ii C, by omega, ⟨j + 1, ii, C, rfl, by omega, by omega, hC, ?_, fun p hp => hI2 p (by omega), rfl⟩, wk_sub ⟨rfl, rfl, rfl, rfl, rfl, trivial⟩⟩
        rw [hI1, take_snoc (k := j + 1) hx, List.filter_append]
        simp [hq]
    · have hjl : j + 1 = n := by have h3 : decide ((((j + 1 : Nat) : Int)) < (n : Int)) = false := hlt; simp at h3; omega
      refine aE ?_
      show AWp _ _ _ _ _ _ _
      refine AWp.wk (wk_sub (s' := st j ii C) ⟨rfl, rfl, rfl, rfl, rfl, trivial⟩) ?_
      refine aS (aR ?_)
      (refine nx (aM (gN rfl) rfl rfl rfl rfl rfl) rfl ?_)
      (refine nx (aM (gN rfl) rfl rfl rfl rfl rfl) rfl ?_)
      (refine nx (a_fromM (j := ii) (gN rfl) rfl rfl rfl rfl rfl rfl rfl rfl (by first | rfl | omega | (simp only [List.length_set, List.length_map, List.length_append, List.length_cons, List.length_nil] <;> omega) | (simp <;> omega)) (by first | rfl | omega | (simp only [List.length_set, List.length_map, List.length_append, List.length_cons, List.length_nil] <;> omega) | (simp <;> omega))) rfl ?_)
      (refine nx (a_clearM (gN rfl) rfl rfl rfl rfl rfl rfl rfl rfl (by first | rfl | omega | (simp only [List.length_set, List.length_map, List.length_append, List.length_cons, List.length_nil] <;> omega) | (simp <;> omega))) rfl ?_)
      show AWp _ _ _ _ _ _ _
      refine aS (aR ?_)
      (refine nx (aM (gN rfl) rfl rfl rfl rfl rfl) rfl ?_)
      (refine nx (aM (gN rfl) rfl rfl rfl rfl rfl) rfl ?_)
      (refine nx (a_uptoM (j := ii) (gN rfl) rfl rfl rfl rfl rfl rfl rfl rfl (by first | rfl | omega | (simp only [List.length_set, List.length_map, List.length_append, List.length_cons, List.length_nil] <;> omega) | (simp <;> omega)) (by first | rfl | omega | (simp only [List.length_set, List.length_map, List.length_append, List.length_cons, List.length_nil] <;> omega) | (simp <;> omega))) rfl ?_)
      (refine nx (aA (gN rfl) rfl rfl rfl rfl rfl) rfl ?_)
      show AWp _ _ _ _ _ _ _
      rw [hjl, ← hR] at hI1
      have hkk : ii = R.length := by rw [← hI1]; simp; omega
      have hdrop : C.drop n = L.drop n := by
        apply List.ext_getElem?
        intro p
        rw [List.getElem?_drop, List.getElem?_drop]
        exact hI2 _ (by omega)
      refine aT ⟨.inr rfl, _, Wk.refl _, ?_, ?_, trivial⟩
      · rw [← hkk]; rfl
      · show some (AV.mrow _ _ _) = some (AV.mrow _ _ _)
        rw [← hkk, ← hI1, ← hdrop, List.map_append, ← List.map_take, List.map_append, List.map_replicate]
        simp only [Nat.zero_add]
        rw [show ii + (n - ii) = n by omega, List.map_drop]
        rfl
def sameV (x y : Bd) : Bool := decide (x.v = y.v)
def sortF (L : List Bd) : List Bd := isortN (ltC cmpB) 0 (L.length - 1) 1 L
def firstsF (L : List Bd) : List Bd := cptN sameV (sortF L) (sortF L).length
def Bd.strip (b : Bd) : Bd := ⟨b.v, b.t.strip⟩
def normF (L : List Bd) : List Bd := ((firstsF L).filter fun b => !idleB b).map Bd.strip

theorem sortF_len (L : List Bd) : (sortF L).length = L.length := isortN_len _ _ _ _ _
theorem cptN_step {q : Bd → Bd → Bool} {L : List Bd} (n : Nat) : cptN q L (n + 1) = cptN q L n ∨ ∃ x, L[n]? = some x ∧ cptN q L (n + 1) = cptN q L n ++ [x] := by
  cases n with
  | zero =>
    cases L with
    | nil => left; rfl
    | cons x l => right; exact ⟨x, rfl, rfl⟩
  | succ m =>
    cases hx : L[m + 1]? with
    | none => left; rw [cptN]; simp only [hx]
    | some x =>
      cases hy : L[m]? with
      | none => right; exact ⟨x, rfl, by rw [cptN]; simp only [hx, hy]⟩
      | some y =>
        cases hq : q x y with
        | true => left; exact cptN_yes hx hy hq
        | false => right; exact ⟨x, rfl, cptN_no hx hy hq⟩
theorem cptN_mem {q : Bd → Bd → Bool} {L : List Bd} : ∀ {n : Nat} {x : Bd}, x ∈ cptN q L n → x ∈ L
  | 0, x, h => by simp [cptN] at h
  | n + 1, x, h => by
    rcases cptN_step (q := q) (L := L) n with e | ⟨y, h1, e⟩
    · rw [e] at h; exact cptN_mem h
    · rw [e] at h
      rcases List.mem_append.1 h with h | h
      · exact cptN_mem h
      · rw [List.mem_singleton.1 h]; exact List.mem_of_getElem? h1
theorem cptN_len {q : Bd → Bd → Bool} {L : List Bd} : ∀ {n : Nat}, (cptN q L n).length ≤ n
  | 0 => Nat.le_refl _
  | n + 1 => by
    have ih := cptN_len (q := q) (L := L) (n := n)
    rcases cptN_step (q := q) (L := L) n with e | ⟨y, h1, e⟩
    · rw [e]; omega
    · rw [e]; simp; omega
theorem sink_mem {lt : Bd → Bd → Bool} {a : Nat} : ∀ {j : Nat} {L : List Bd} {z : Bd}, z ∈ sink lt a j L ↔ z ∈ L
  | 0, L, z => Iff.rfl
  | j + 1, L, z => by
    rw [sink]
    split
    · rename_i x y hx hy
      split
      · rw [sink_mem]
        have hj : j + 1 < L.length := by
          rcases Nat.lt_or_ge (j + 1) L.length with h | h
          · exact h
          · rw [List.getElem?_eq_none h] at hx; cases hx
        have hxe : L[j + 1] = x := by rw [List.getElem?_eq_getElem hj] at hx; exact Option.some.inj hx
        have hye : L[j]'(by omega) = y := by rw [List.getElem?_eq_getElem (by omega)] at hy; exact Option.some.inj hy
        constructor
        · intro h
          rcases mem_set_of h with h | rfl
          · rcases mem_set_of h with h | rfl
            · exact h
            · exact List.mem_of_getElem? hy
          · exact List.mem_of_getElem? hx
        · intro h
          obtain ⟨i, hi⟩ := List.getElem?_of_mem h
          by_cases e1 : i = j
          · subst e1
            rw [hy] at hi
            cases hi
            exact List.mem_of_getElem? (i := i + 1) (by rw [List.getElem?_set_ne (by omega), List.getElem?_set_self hj])
          · by_cases e2 : i = j + 1
            · subst e2
              rw [hx] at hi
              cases hi
              exact List.mem_of_getElem? (i := j) (by rw [List.getElem?_set_self (by simp; omega)])
            · exact List.mem_of_getElem? (i := i) (by rw [List.getElem?_set_ne (Ne.symm e1), List.getElem?_set_ne (Ne.symm e2)]; exact hi)
      · exact Iff.rfl
    · exact Iff.rfl
theorem isortN_mem {lt : Bd → Bd → Bool} {a : Nat} : ∀ {n i : Nat} {L : List Bd} {z : Bd}, z ∈ isortN lt a n i L ↔ z ∈ L
  | 0, _, _, _ => Iff.rfl
  | n + 1, i, L, z => by rw [isortN, isortN_mem, sink_mem]
theorem firstsF_mem {L : List Bd} {x : Bd} (h : x ∈ firstsF L) : x ∈ L := isortN_mem.1 (cptN_mem h)
theorem firstsF_len (L : List Bd) : (firstsF L).length ≤ L.length := by
  have := cptN_len (q := sameV) (L := sortF L) (n := (sortF L).length)
  rw [sortF_len] at this
  unfold firstsF
  rw [sortF_len]
  exact this

-- 
theorem firstsG_abs (L : List Bd) (hn : L.length ≤ 1000000) (hso : AFunO Tryz.prog 177 [(400000, .mrow 112 3 (L.map Bd.cv))] [.sl 400000 0 L.length 3, .val (.sc (.func (.func 178) #[] #[]))] (.tup []) [(400000, .mrow 112 3 ((sortF L).map Bd.cv))]) :
    AFunO Tryz.prog 159 [] [.val (.lst (L.map Bd.cv))] (.sl 400000 0 (firstsF L).length 3) [(400000, .mrow 112 3 ((firstsF L ++ List.replicate (L.length - (firstsF L).length) Bd.zero).map Bd.cv))] := by
  refine afunO_of Tryz.func159 Tryz.ntmps159 rfl rfl rfl rfl rfl rfl ?_
  intro w U hU
  have hUf : U.f 400000 = none := by
    cases h : U.f 400000 with
    | none => rfl
    | some v => have := hU _ _ h; cases this
  have hcl := cloneB_abs L (by omega)
  have hco := compact_abs sameV (.sc (.func (.func 180) #[] #[])) (sortF L) (by rw [sortF_len]; omega) (fun W x y => .inr ⟨_, rfl, sameB_abs W x y⟩)
  refine aS (aR ?_)
  (refine nx (aA (gN rfl) rfl rfl rfl rfl rfl) rfl ?_)
  show AWp _ _ _ _ _ _ _
  refine aS (aR ?_)
  (refine nx (aM (gN rfl) rfl rfl rfl rfl rfl) rfl ?_)
  (refine nx (a_callO (gN rfl) rfl rfl rfl rfl rfl (hcl) (by repeat (first | exact trivial | refine ⟨rfl, ?_⟩)) (by first | rfl | kernel_rfl) (by first | rfl | kernel_rfl) (by first | rfl | kernel_rfl) (by first | rfl | kernel_rfl) (hnb_of (by first | rfl | kernel_rfl))) rfl ?_)
  (refine nx (aA (gN rfl) rfl rfl rfl rfl rfl) rfl ?_)
  show AWp _ _ _ _ _ _ _
  refine AWp.wk ((wk_sub (s' := [(3, .sl 250007 0 L.length 3), (250007, .mrow 112 3 (L.map Bd.cv))]) ⟨rfl, rfl, trivial⟩).trans (wk_renF 250007 400000 rfl rfl hUf rfl rfl rfl)) ?_
  refine aS (aR ?_)
  (refine nx (aM (gN rfl) rfl rfl rfl rfl rfl) rfl ?_)
  (refine nx (a_callO (gN rfl) rfl rfl rfl rfl rfl (hso) (by repeat (first | exact trivial | refine ⟨rfl, ?_⟩)) (by first | rfl | kernel_rfl) (by first | rfl | kernel_rfl) (by first | rfl | kernel_rfl) (by first | rfl | kernel_rfl) (hnb_of (by first | rfl | kernel_rfl))) rfl ?_)
  show AWp _ _ _ _ _ _ _
  refine AWp.wk (wk_sub (s' := [(3, .sl 400000 0 (sortF L).length 3), (400000, .mrow 112 3 ((sortF L).map Bd.cv))]) ⟨by rw [sortF_len]; rfl, rfl, trivial⟩) ?_
  refine aS (aR ?_)
  (refine nx (aM (gN rfl) rfl rfl rfl rfl rfl) rfl ?_)
  (refine nx (a_callO (gN rfl) rfl rfl rfl rfl rfl (hco) (by repeat (first | exact trivial | refine ⟨rfl, ?_⟩)) (by first | rfl | kernel_rfl) (by first | rfl | kernel_rfl) (by first | rfl | kernel_rfl) (by first | rfl | kernel_rfl) (hnb_of (by first | rfl | kernel_rfl))) rfl ?_)
  (refine nx (aA (gN rfl) rfl rfl rfl rfl rfl) rfl ?_)
  show AWp _ _ _ _ _ _ _
  refine aT ⟨.inr rfl, _, Wk.refl _, rfl, ?_, trivial⟩
  show some (AV.mrow _ _ _) = some (AV.mrow _ _ _)
  rw [sortF_len]
  unfold firstsF
  rw [sortF_len]

theorem firsts_abs (L : List Bd) (hn : L.length < 20) :
    AFunO Tryz.prog 159 [] [.val (.lst (L.map Bd.cv))] (.sl 400000 0 (firstsF L).length 3) [(400000, .mrow 112 3 ((firstsF L ++ List.replicate (L.length - (firstsF L).length) Bd.zero).map Bd.cv))] := firstsG_abs L (by omega) (sortStable_abs cmpB (.sc (.func (.func 178) #[] #[])) L hn (fun W x y => .inr ⟨_, rfl, cmpB_abs W x y⟩))

-- 
theorem normG_abs (W : World) (L : List Bd) (hn : L.length ≤ 1000000) (hb : bdsOk L) (hfi : AFunO Tryz.prog 159 [] [.val (.lst (L.map Bd.cv))] (.sl 400000 0 (firstsF L).length 3) [(400000, .mrow 112 3 ((firstsF L ++ List.replicate (L.length - (firstsF L).length) Bd.zero).map Bd.cv))]) : AFun Tryz.prog W 125 [.lst (L.map Bd.cv)] (.val (.lst ((normF L).map Bd.cv))) := by
  refine afun_of (rs := [.lst ((normF L).map Bd.cv)]) Tryz.func125 Tryz.ntmps125 rfl rfl rfl rfl ?_
  intro w U hW
  obtain ⟨F, hF⟩ : ∃ F, F = firstsF L ++ List.replicate (L.length - (firstsF L).length) Bd.zero := ⟨_, rfl⟩
  rw [← hF] at hfi
  have hFl : F.length = L.length := by rw [hF]; have := firstsF_len L; simp; omega
  have hFt : F.take (firstsF L).length = firstsF L := by rw [hF]; simp
  have hde := delete_abs idleB (.sc (.func (.func 160) #[] #[])) F (firstsF L).length (by rw [hFl]; exact firstsF_len L) (by omega) (fun W x hx => .inr ⟨_, rfl, idle_abs W x (by rw [hFt] at hx; exact ((Tm.rng_iff _).1 (hb x (firstsF_mem hx)).1).1.1)⟩)
  rw [hFt] at hde
  obtain ⟨R, hR⟩ : ∃ R, R = (firstsF L).filter fun b => !idleB b := ⟨_, rfl⟩
  rw [← hR] at hde
  obtain ⟨Z, hZ⟩ : ∃ Z, Z = List.replicate ((firstsF L).length - R.length) Bd.zero ++ F.drop (firstsF L).length := ⟨_, rfl⟩
  rw [← hZ] at hde
  have hRm : ∀ x ∈ R, x ∈ L := fun x hx => by rw [hR] at hx; exact firstsF_mem (List.mem_filter.1 hx).1
  have hRl : R.length ≤ L.length := by rw [hR]; exact Nat.le_trans (List.length_filter_le _ _) (firstsF_len L)
  refine aS (aR ?_)
  (refine nx (aA (gN rfl) rfl rfl rfl rfl rfl) rfl ?_)
  show AWp _ _ _ _ _ _ _
  refine aS (aR ?_)
  (refine nx (aM (gN rfl) rfl rfl rfl rfl rfl) rfl ?_)
  (refine nx (a_callO (gN rfl) rfl rfl rfl rfl rfl (hfi) (by repeat (first | exact trivial | refine ⟨rfl, ?_⟩)) (by first | rfl | kernel_rfl) (by first | rfl | kernel_rfl) (by first | rfl | kernel_rfl) (by first | rfl | kernel_rfl) (fun k v h => by first | (rw [hW.1] at h; cases h) | (have h2 := hU k v h; cases h2))) rfl ?_)
  (refine nx (a_callO (gN rfl) rfl rfl rfl rfl rfl (hde) (by repeat (first | exact trivial | refine ⟨rfl, ?_⟩)) (by first | rfl | kernel_rfl) (by first | rfl | kernel_rfl) (by first | rfl | kernel_rfl) (by first | rfl | kernel_rfl) (hnb_of (by first | rfl | kernel_rfl))) rfl ?_)
  (refine nx (aA (gN rfl) rfl rfl rfl rfl rfl) rfl ?_)
  show AWp _ _ _ _ _ _ _
  refine aS (aS (aR ?_))
  (refine nx (aM (gN rfl) rfl rfl rfl rfl rfl) rfl ?_)
  (refine nx (a_lenM (gN rfl) rfl rfl rfl rfl rfl rfl rfl) rfl ?_)
  (refine nx (aM (gN rfl) rfl rfl rfl rfl rfl) rfl ?_)
  show AWp _ _ _ _ _ _ _
  let C : Nat → List Bd := fun k => (R.take k).map Bd.strip ++ (R.drop k ++ Z)
  refine aB (awp_count R.length (fun k => [(3, .sl 400000 0 R.length 3), (9, .sl 400000 0 R.length 3), (10, .val (.i R.length)), (11, .val (.i k)), (400000, .mrow 112 3 ((C k).map Bd.cv))]) (wk_sub ⟨rfl, rfl, rfl, rfl, rfl, trivial⟩) ?_)
  intro k hk
  have hCl : (C k).length = R.length + Z.length := by simp [C]; omega
  refine aS (aR ?_)
  (refine nx (a_lss (gN rfl) rfl rfl rfl rfl rfl rfl) rfl ?_)
  show AWp _ _ _ _ _ _ _
  refine aS (aC rfl (fun hlt => ?_) (fun hlt => ?_))
  · have hkl : k < R.length := by simpa using hlt
    obtain ⟨x, hx⟩ : ∃ x, R[k]? = some x := ⟨R[k], List.getElem?_eq_getElem hkl⟩
    have hxC : (C k)[k]? = some x := by
      show ((R.take k).map Bd.strip ++ (R.drop k ++ Z))[k]? = some x
      rw [List.getElem?_append_right (by simp; omega), List.getElem?_append_left (by simp; omega), List.getElem?_drop]
      simp only [List.length_map, List.length_take, Nat.min_eq_left (Nat.le_of_lt hkl), Nat.sub_self, Nat.add_zero]
      exact hx
    have hx' := Bd.map_at hxC
    have hxo := hb x (hRm x (List.mem_of_getElem? hx))
    refine aK ?_
    show AWp _ _ _ _ _ _ _
    refine aS (aB (aS (aR ?_)))
    (refine nx (aM (gN rfl) rfl rfl rfl rfl rfl) rfl ?_)
    (refine nx (aIm (k := k) (gN rfl) rfl rfl rfl rfl rfl rfl rfl rfl rfl (by first | rfl | omega | (simp only [List.length_set, List.length_map, List.length_append, List.length_cons, List.length_nil] <;> omega) | (simp <;> omega))) rfl ?_)
    (refine nx (a_loadM (gN rfl) rfl rfl rfl rfl rfl rfl rfl rfl (hx') rfl (by first | rfl | omega | (simp only [List.length_set, List.length_map, List.length_append, List.length_cons, List.length_nil] <;> omega) | (simp <;> omega)) rfl rfl) rfl ?_)
    (refine nx (a_alloc (gN rfl) rfl rfl rfl rfl rfl rfl rfl rfl rfl rfl) rfl ?_)
    (refine nx (aA (gN rfl) rfl rfl rfl rfl rfl) rfl ?_)
    (refine nx (aSt (gN rfl) rfl rfl rfl rfl rfl rfl rfl rfl rfl rfl) rfl ?_)
    show AWp _ _ _ _ _ _ _
    refine aR ?_
    (refine nx (aM (gN rfl) rfl rfl rfl rfl rfl) rfl ?_)
    (refine nx (aM (gN rfl) rfl rfl rfl rfl rfl) rfl ?_)
    (refine nx (aF (gN rfl) rfl rfl rfl rfl rfl rfl rfl rfl rfl) rfl ?_)
    (refine nx (aLb (gN rfl) rfl rfl rfl rfl rfl rfl rfl rfl rfl rfl rfl rfl) rfl ?_)
    (refine nx (a_call (gN rfl) rfl rfl rfl rfl rfl (clone_abs _ hxo.1 hxo.2)) rfl ?_)
    (refine nx (aIm (k := k) (gN rfl) rfl rfl rfl rfl rfl rfl rfl rfl rfl (by first | rfl | omega | (simp only [List.length_set, List.length_map, List.length_append, List.length_cons, List.length_nil] <;> omega) | (simp <;> omega))) rfl ?_)
    (refine nx (a_fieldM (gN rfl) rfl rfl rfl rfl rfl rfl rfl rfl rfl) rfl ?_)
    (refine nx (a_storeM (gN rfl) rfl rfl rfl rfl rfl rfl (hx') rfl rfl (by first | rfl | omega | (simp only [List.length_set, List.length_map, List.length_append, List.length_cons, List.length_nil] <;> omega) | (simp <;> omega)) rfl) rfl ?_)
    show AWp _ _ _ _ _ _ _
    refine aR ?_
    (refine nx (a_add (gN rfl) rfl rfl rfl rfl rfl rfl (by first | omega | (simp only [List.length_map, List.length_append, List.length_cons, List.length_nil] <;> omega) | (simp <;> omega))) rfl ?_)
    (refine nx (aM (gN rfl) rfl rfl rfl rfl rfl) rfl ?_)
    refine ⟨hkl, wk_sub ⟨rfl, rfl, rfl, rfl, ?_, trivial⟩⟩
    show some (AV.mrow _ _ _) = some (AV.mrow _ _ _)
    have e1 : ((C k).map Bd.cv).set k (Bd.strip x).cw = (C (k + 1)).map Bd.cv := by
      rw [set_map_cv]
      congr 1
      show ((R.take k).map Bd.strip ++ (R.drop k ++ Z)).set k (Bd.strip x) = (R.take (k + 1)).map Bd.strip ++ (R.drop (k + 1) ++ Z)
      rw [List.set_append_right _ _ (by simp; omega)]
      simp only [List.length_map, List.length_take, Nat.min_eq_left (Nat.le_of_lt hkl), Nat.sub_self]
      have e2 : R.drop k = x :: R.drop (k + 1) := by
        rw [List.getElem?_eq_getElem hkl] at hx
        rw [← Option.some.inj hx, List.getElem_cons_drop]
      rw [e2, take_snoc hx, List.map_append]
      simp
    rw [← e1]
    rfl
  · have hkl : k = R.length := by
      have : ¬ k < R.length := by simpa using hlt
      omega
    subst hkl
    refine aE ?_
    show AWp _ _ _ _ _ _ _
    refine aS (aR ?_)
    (refine nx (aM (gN rfl) rfl rfl rfl rfl rfl) rfl ?_)
    (refine nx (aA (gN rfl) rfl rfl rfl rfl rfl) rfl ?_)
    show AWp _ _ _ _ _ _ _
    refine AWp.wk (wk_frz 2 400000 rfl rfl rfl (.inl hW.2) (by rw [List.length_map, hCl]; omega) (s' := []) trivial rfl) ?_
    refine aT ⟨.inr rfl, ?_⟩
    show some [CV.lst _] = some [CV.lst _]
    congr 3
    show (((C R.length).map Bd.cv).drop 0).take R.length = (normF L).map Bd.cv
    rw [List.drop_zero, ← List.map_take]
    congr 1
    show (((R.take R.length).map Bd.strip ++ (R.drop R.length ++ Z))).take R.length = normF L
    rw [List.take_length, List.take_append_of_le_length (by simp), List.take_of_length_le (by simp), hR]
    rfl
theorem norm_abs (W : World) (L : List Bd) (hn : L.length < 20) (hb : bdsOk L) : AFun Tryz.prog W 125 [.lst (L.map Bd.cv)] (.val (.lst ((normF L).map Bd.cv))) := normG_abs W L (by omega) hb (firsts_abs L hn)
end Go.Proofs.YteegmcfobgpemaaGreat
namespace Go.Proofs.YteegmcfobgpemaaGreat
open Go.RowKit
set_option linter.unusedVariables false
set_option linter.unusedSimpArgs false
theorem ltB (x y : Bd) : ltC cmpB x y = decide (x.v < y.v) := by
  unfold ltC cmpB cmpZ
  by_cases h : x.v < y.v
  · simp [h]
  · by_cases h2 : x.v > y.v
    · simp [h, h2]
    · simp [h, h2]

theorem get_mid {α : Type} (A : List α) (x : α) (B : List α) : (A ++ x :: B)[A.length]? = some x := by simp
theorem sink_spec (lt : Bd → Bd → Bool) (x : Bd) (B : List Bd) : ∀ (n : Nat) (A : List Bd), A.length = n → ∃ A1 A2, A = A1 ++ A2 ∧ sink lt 0 A.length (A ++ x :: B) = A1 ++ x :: (A2 ++ B) ∧ (∀ y ∈ A2, lt x y = true) ∧ ∀ y, A1.getLast? = some y → lt x y = false := by
  intro n
  induction n generalizing x B with
  | zero =>
    intro A hA
    have : A = [] := List.eq_nil_of_length_eq_zero hA
    subst this
    exact ⟨[], [], rfl, rfl, by simp, by simp⟩
  | succ n ih =>
    intro A hA
    obtain ⟨A', y, rfl⟩ : ∃ A' y, A = A' ++ [y] := ⟨A.dropLast, A.getLast (by intro h; rw [h] at hA; simp at hA), (List.dropLast_concat_getLast _).symm⟩
    have hl : A'.length = n := by simp at hA; omega
    have hx : (A' ++ [y] ++ x :: B)[A'.length + 1]? = some x := by
      have := get_mid (A' ++ [y]) x B
      rwa [List.length_append, List.length_singleton] at this
    have hy : (A' ++ [y] ++ x :: B)[A'.length]? = some y := by
      rw [List.append_assoc]; exact get_mid A' y (x :: B)
    rw [List.length_append, List.length_singleton]
    cases h : lt x y with
    | false =>
      refine ⟨A' ++ [y], [], by simp, ?_, by simp, fun z hz => ?_⟩
      · rw [sink_no lt 0 hx hy h]; simp
      · rw [List.getLast?_append] at hz
        simp at hz
        subst hz; exact h
    | true =>
      rw [sink_yes lt 0 hx hy (by omega) h]
      have hsw : ((A' ++ [y] ++ x :: B).set (A'.length + 1) y).set A'.length x = A' ++ x :: (y :: B) := by
        rw [List.append_assoc, List.set_append_right _ _ (by omega), show A'.length + 1 - A'.length = 1 by omega, List.set_append_right _ _ (by simp)]
        simp
      rw [hsw]
      obtain ⟨A1, A2, e1, e2, e3, e4⟩ := ih x (y :: B) A' hl
      refine ⟨A1, A2 ++ [y], by rw [e1]; simp, by rw [e2]; simp, fun z hz => ?_, e4⟩
      rcases List.mem_append.1 hz with hz | hz
      · exact e3 z hz
      · rw [List.mem_singleton.1 hz]; exact h

def SrtB (l : List Bd) : Prop := l.Pairwise fun x y => x.v ≤ y.v
theorem srt_ins {A1 A2 : List Bd} {x : Bd} (h : SrtB (A1 ++ A2)) (h2 : ∀ y ∈ A2, x.v < y.v) (h1 : ∀ y, A1.getLast? = some y → ¬ x.v < y.v) : SrtB (A1 ++ x :: A2) := by
  unfold SrtB at h ⊢
  rw [List.pairwise_append] at h ⊢
  refine ⟨h.1, List.pairwise_cons.2 ⟨fun y hy => Int.le_of_lt (h2 y hy), h.2.1⟩, fun a ha b hb => ?_⟩
  rcases List.mem_cons.1 hb with rfl | hb
  · -- a is at most the last
    obtain ⟨A', z, rfl⟩ : ∃ A' z, A1 = A' ++ [z] := ⟨A1.dropLast, A1.getLast (List.ne_nil_of_mem ha), (List.dropLast_concat_getLast _).symm⟩
    have hz := h1 z (by simp)
    rcases List.mem_append.1 ha with ha | ha
    · have := (List.pairwise_append.1 h.1).2.2 a ha z (by simp)
      omega
    · rw [List.mem_singleton.1 ha]; omega
  · exact h.2.2 a ha b hb
theorem filt_ins {A1 A2 : List Bd} {x : Bd} (h2 : ∀ y ∈ A2, x.v < y.v) (v : Int) : (A1 ++ x :: A2).filter (fun b => decide (b.v = v)) = (A1 ++ A2 ++ [x]).filter (fun b => decide (b.v = v)) := by
  simp only [List.filter_append, List.filter_cons, List.filter_nil, List.append_assoc]
  by_cases h : x.v = v
  · have : A2.filter (fun b => decide (b.v = v)) = [] := by
      rw [List.filter_eq_nil_iff]
      intro y hy hv
      have := h2 y hy
      simp at hv
      omega
    rw [this]; simp [h]
  · simp [h]
theorem isortN_spec : ∀ (n : Nat) (A B : List Bd), SrtB A → n ≤ B.length → ∃ A', isortN (ltC cmpB) 0 n A.length (A ++ B) = A' ++ B.drop n ∧ SrtB A' ∧ A'.length = A.length + n ∧ ∀ v, A'.filter (fun b => decide (b.v = v)) = (A ++ B.take n).filter (fun b => decide (b.v = v))
  | 0, A, B, hA, _ => ⟨A, by simp [isortN], hA, rfl, fun v => by simp⟩
  | n + 1, A, [], hA, hn => by simp at hn
  | n + 1, A, x :: B, hA, hn => by
    obtain ⟨A1, A2, e1, e2, e3, e4⟩ := sink_spec (ltC cmpB) x B A.length A rfl
    have h2 : ∀ y ∈ A2, x.v < y.v := fun y hy => by have := e3 y hy; rw [ltB] at this; simpa using this
    have h1 : ∀ y, A1.getLast? = some y → ¬ x.v < y.v := fun y hy => by have := e4 y hy; rw [ltB] at this; simpa using this
    have hs : SrtB (A1 ++ x :: A2) := srt_ins (by rw [← e1]; exact hA) h2 h1
    obtain ⟨A', f1, f2, f3, f4⟩ := isortN_spec n (A1 ++ x :: A2) B hs (by simpa using hn)
    have hl : (A1 ++ x :: A2).length = A.length + 1 := by rw [e1]; simp; omega
    refine ⟨A', ?_, f2, by rw [f3, hl]; omega, fun v => ?_⟩
    · rw [isortN, e2, show A1 ++ x :: (A2 ++ B) = (A1 ++ x :: A2) ++ B by simp, ← hl, f1]; rfl
    · rw [f4 v, List.filter_append, filt_ins h2 v, ← e1, List.take_succ_cons, ← List.filter_append, List.append_assoc]
      rfl
theorem sortF_spec (L : List Bd) : SrtB (sortF L) ∧ ∀ v, (sortF L).filter (fun b => decide (b.v = v)) = L.filter (fun b => decide (b.v = v)) := by
  cases L with
  | nil => exact ⟨List.Pairwise.nil, fun v => rfl⟩
  | cons x l =>
    obtain ⟨A', f1, f2, f3, f4⟩ := isortN_spec l.length [x] l (List.pairwise_singleton _ _) (Nat.le_refl _)
    have e : sortF (x :: l) = A' := by
      unfold sortF
      rw [List.length_cons, Nat.add_sub_cancel]
      have := f1
      rw [List.drop_length, List.append_nil] at this
      exact this
    rw [e]
    exact ⟨f2, fun v => by rw [f4 v, List.take_length]; rfl⟩

theorem findB_filter : ∀ (L : List Bd) (v : Int), findB L v = (L.filter (fun b => decide (b.v = v))).head?.map Bd.t
  | [], _ => rfl
  | b :: L, v => by
    rw [findB]
    by_cases h : b.v = v
    · simp [h]
    · rw [if_neg h, findB_filter L v]; simp [h]
theorem findB_sort (L : List Bd) (v : Int) : findB (sortF L) v = findB L v := by rw [findB_filter, findB_filter, (sortF_spec L).2]
theorem findB_snoc (L : List Bd) (x : Bd) (v : Int) : findB (L ++ [x]) v = (findB L v).or (if x.v = v then some x.t else none) := by
  induction L with
  | nil => simp only [List.nil_append, findB]; split <;> rfl
  | cons b L ih =>
    rw [List.cons_append, findB, findB]
    split
    · rfl
    · exact ih
theorem findB_some_of_mem {L : List Bd} {x : Bd} (h : x ∈ L) : ∃ t, findB L x.v = some t := by
  induction L with
  | nil => cases h
  | cons b L ih =>
    rw [findB]
    split
    · exact ⟨_, rfl⟩
    · rename_i hne
      rcases List.mem_cons.1 h with rfl | h
      · exact absurd rfl hne
      · exact ih h
theorem cpt_spec {S : List Bd} (hS : SrtB S) : ∀ (m : Nat), m ≤ S.length → (∀ v, findB (cptN sameV S m) v = findB (S.take m) v) ∧ (cptN sameV S m).Pairwise (fun x y => x.v < y.v) ∧ ∀ (k : Nat) (y : Bd), m = k + 1 → S[k]? = some y → ∀ x ∈ cptN sameV S m, x.v ≤ y.v
  | 0, _ => ⟨fun v => rfl, List.Pairwise.nil, fun k y h => by omega⟩
  | 1, h => by
    cases S with
    | nil => simp at h
    | cons x l =>
      rw [cptN_one]
      exact ⟨fun v => rfl, List.pairwise_singleton _ _, fun k y hk hy z hz => by
        have : k = 0 := by omega
        subst this
        simp at hy hz
        subst hy; subst hz; exact Int.le_refl _⟩
  | m + 2, h => by
    obtain ⟨ih1, ih2, ih3⟩ := cpt_spec hS (m + 1) (by omega)
    obtain ⟨x, hx⟩ : ∃ x, S[m + 1]? = some x := ⟨S[m + 1], List.getElem?_eq_getElem (by omega)⟩
    obtain ⟨y, hy⟩ : ∃ y, S[m]? = some y := ⟨S[m]'(by omega), List.getElem?_eq_getElem (by omega)⟩
    have hle : y.v ≤ x.v := by
      have := List.pairwise_iff_getElem.1 hS m (m + 1) (by omega) (by omega) (by omega)
      rw [List.getElem?_eq_getElem (by omega)] at hx hy
      rw [← Option.some.inj hx, ← Option.some.inj hy]
      exact this
    have htk := take_snoc hx
    cases hq : sameV x y with
    | true =>
      have hv : x.v = y.v := by simpa [sameV] using hq
      rw [cptN_yes hx hy hq]
      refine ⟨fun v => ?_, ih2, fun k z hk hz w hw => ?_⟩
      · rw [ih1 v, htk, findB_snoc]
        by_cases e : x.v = v
        · obtain ⟨t, ht⟩ := findB_some_of_mem (L := S.take (m + 1)) (x := y) (List.mem_of_getElem? (i := m) (by rw [List.getElem?_take, if_pos (by omega)]; exact hy))
          rw [← e, hv, ht]; rfl
        · rw [if_neg e]; simp
      · have : k = m + 1 := by omega
        subst this
        rw [hx] at hz
        cases hz
        rw [hv]
        exact ih3 m y rfl hy w hw
    | false =>
      have hv : x.v ≠ y.v := by simpa [sameV] using hq
      rw [cptN_no hx hy hq]
      refine ⟨fun v => by rw [findB_snoc, ih1 v, htk, findB_snoc], ?_, fun k z hk hz w hw => ?_⟩
      · rw [List.pairwise_append]
        refine ⟨ih2, List.pairwise_singleton _ _, fun a ha b hb => ?_⟩
        rw [List.mem_singleton.1 hb]
        have := ih3 m y rfl hy a ha
        omega
      · have : k = m + 1 := by omega
        subst this
        rw [hx] at hz
        cases hz
        rcases List.mem_append.1 hw with hw | hw
        · have := ih3 m y rfl hy w hw; omega
        · rw [List.mem_singleton.1 hw]; exact Int.le_refl _
theorem firstsF_spec (L : List Bd) : (∀ v, findB (firstsF L) v = findB L v) ∧ (firstsF L).Pairwise (fun x y => x.v < y.v) := by
  obtain ⟨h1, h2, _⟩ := cpt_spec (sortF_spec L).1 (sortF L).length (Nat.le_refl _)
  refine ⟨fun v => ?_, h2⟩
  have := h1 v
  rw [List.take_length, findB_sort] at this
  exact this

theorem findB_map {L : List Bd} (v : Int) : findB (L.map Bd.strip) v = (findB L v).map Tm.strip := by
  induction L with
  | nil => rfl
  | cons b L ih =>
    rw [List.map_cons, findB, findB]
    show (if b.v = v then _ else _) = _
    split
    · rfl
    · exact ih
theorem findB_idle {L : List Bd} (h : L.Pairwise (fun x y => x.v < y.v)) (v : Int) : findB (L.filter fun b => !idleB b) v = match findB L v with | some t => if idleB ⟨v, t⟩ then none else some t | none => none := by
  induction L with
  | nil => rfl
  | cons b L ih =>
    rw [List.pairwise_cons] at h
    rw [List.filter_cons]
    by_cases hv : b.v = v
    · have hno : ∀ c ∈ L, c.v ≠ v := fun c hc => by have := h.1 c hc; omega
      have hb : (⟨v, b.t⟩ : Bd) = b := by rw [← hv]
      rw [findB, if_pos hv]
      simp only
      rw [hb]
      cases hi : idleB b with
      | true =>
        simp only [Bool.not_true, Bool.false_eq_true, if_false, if_true]
        exact findB_none fun c hc => hno c (List.mem_filter.1 hc).1
      | false =>
        simp only [Bool.not_false, if_true, Bool.false_eq_true, if_false]
        rw [findB, if_pos hv]
    · rw [findB, if_neg hv]
      split
      · rw [findB, if_neg hv]; exact ih h.2
      · exact ih h.2
theorem findB_norm (L : List Bd) (v : Int) : findB (normF L) v = match findB L v with | some t => if idleB ⟨v, t⟩ then none else some t.strip | none => none := by
  unfold normF
  rw [findB_map, findB_idle (firstsF_spec L).2, (firstsF_spec L).1]
  cases findB L v with
  | none => rfl
  | some t => simp only; split <;> rfl
theorem normF_srt (L : List Bd) : (normF L).Pairwise (fun x y => x.v < y.v) := by
  unfold normF
  rw [List.pairwise_map]
  exact ((firstsF_spec L).2.filter _).imp (fun h => h)
theorem strip_of_var {t : Tm} (h : t.f < 0) : t.strip = ⟨t.f, []⟩ := by
  rw [Tm.strip_eq]
  have : t.ps = [] := by unfold Tm.ps; rw [if_pos h]
  rw [this]; rfl
end Go.Proofs.YteegmcfobgpemaaGreat
namespace Go.Proofs.YteegmcfobgpemaaGreat
open Go.RowKit
set_option linter.unusedVariables false
set_option linter.unusedSimpArgs false
set_option maxRecDepth 100000

theorem findB_appd (A M : List Bd) (v : Int) : findB (A ++ M) v = (findB A v).or (findB M v) := by
  induction A with
  | nil => rfl
  | cons b A ih =>
    rw [List.cons_append, findB, findB]
    split
    · rfl
    · exact ih
theorem rep_two (f g : Int → Tm) (t : Tm) : repT g (repT f t) = repT (fun v => repT g (f v)) t := by
  induction t using Tm.indp with
  | h t ih =>
    by_cases hf : t.f < 0
    · rw [repT_var hf, repT_var hf, rep_strip, rep_bare]
    · rw [Tm.ps_of_sym (by omega)] at ih
      rw [repT_sym hf, repT_sym (t := ⟨t.f, _⟩) hf, repT_sym hf]
      simp only [List.map_map]
      congr 1
      exact List.map_congr_left fun s hs => ih s hs
theorem normF_len (L : List Bd) : (normF L).length ≤ L.length := by
  unfold normF
  rw [List.length_map]
  exact Nat.le_trans (List.length_filter_le _ _) (firstsF_len L)
end Go.Proofs.YteegmcfobgpemaaGreat
namespace Go.Proofs.YteegmcfobgpemaaGreat
set_option linter.unusedVariables false
set_option linter.unusedSimpArgs false
def uni (τ : Int → Tm) (E : List (Tm × Tm)) : Prop := ∀ p ∈ E, repT τ p.1 = repT τ p.2
theorem uni_app {τ : Int → Tm} {E F : List (Tm × Tm)} : uni τ (E ++ F) ↔ uni τ E ∧ uni τ F := by
  unfold uni
  constructor
  · intro h; exact ⟨fun p hp => h p (List.mem_append_left _ hp), fun p hp => h p (List.mem_append_right _ hp)⟩
  · rintro ⟨h1, h2⟩ p hp
    rcases List.mem_append.1 hp with hp | hp
    · exact h1 p hp
    · exact h2 p hp
theorem uni_one {τ : Int → Tm} {a b : Tm} : uni τ [(a, b)] ↔ repT τ a = repT τ b := by
  unfold uni
  constructor
  · intro h; exact h (a, b) (by simp)
  · intro h p hp
    simp only [List.mem_singleton] at hp
    rw [hp]; exact h
structure Mgu (σ : Int → Tm) (E : List (Tm × Tm)) : Prop where
  uni : uni σ E
  bare : ∀ v, 0 ≤ v → (σ v).strip = σ v
  idem : ∀ v, 0 ≤ v → ∀ u ∈ (σ v).vs, σ u = varT u
  most : ∀ τ, Go.Proofs.YteegmcfobgpemaaGreat.uni τ E → ∀ v, 0 ≤ v → repT τ (σ v) = (τ v).strip
  low : ∀ v, 0 ≤ v → (σ v).f < 0 → -1 - (σ v).f ≤ v

theorem varT_f (v : Int) : (varT v).f = -1 - v := rfl
theorem rep_varT {τ : Int → Tm} {v : Int} (hv : 0 ≤ v) : repT τ (varT v) = (τ v).strip := by
  rw [repT_var (by rw [varT_f]; omega), varT_f, show -1 - (-1 - v) = v by omega]
theorem rep_f {τ : Int → Tm} {t : Tm} (h : ¬ t.f < 0) : (repT τ t).f = t.f := by rw [repT_sym h]
theorem var_of_rep {τ : Int → Tm} {t : Tm} (h : (repT τ t).f < 0) : t.f < 0 := by
  rcases Decidable.em (t.f < 0) with h1 | h1
  · exact h1
  · rw [rep_f h1] at h; exact h
theorem bare_var {t : Tm} (hb : t.strip = t) (h : t.f < 0) : t = varT (-1 - t.f) := by
  rw [← hb, strip_of_var h]
  unfold varT
  rw [show -1 - (-1 - t.f) = t.f by omega]
theorem rep_idem {σ : Int → Tm} {t : Tm} (h : ∀ u ∈ t.vs, σ u = varT u) : repT σ t = t.strip := by
  rw [rep_congr (g := varT) h, rep_id]

theorem Mgu.stays {σ σ' : Int → Tm} {E : List (Tm × Tm)} (h : Mgu σ E) (h' : Mgu σ' E) {v : Int} (hv : 0 ≤ v) (e : σ v = varT v) : σ' v = varT v := by
  have h1 := h'.most σ h.uni v hv
  rw [h.bare v hv, e] at h1
  have h2 : (σ' v).f < 0 := var_of_rep (τ := σ) (by rw [h1, varT_f]; omega)
  obtain ⟨u, hu⟩ : ∃ u, u = -1 - (σ' v).f := ⟨_, rfl⟩
  have hu0 : 0 ≤ u := by omega
  have h3 : σ' v = varT u := by rw [hu]; exact bare_var (h'.bare v hv) h2
  have h4 : u ≤ v := by rw [hu]; exact h'.low v hv h2
  rw [h3, rep_varT hu0, h.bare u hu0] at h1
  have h5 := h.low u hu0 (by rw [h1, varT_f]; omega)
  rw [h1, varT_f] at h5
  have : u = v := by omega
  rw [h3, this]
theorem Mgu.one {σ σ' : Int → Tm} {E : List (Tm × Tm)} (h : Mgu σ E) (h' : Mgu σ' E) {v : Int} (hv : 0 ≤ v) : σ' v = σ v := by
  have h1 := h.most σ' h'.uni v hv
  rw [h'.bare v hv, rep_idem (fun u hu => h.stays h' (vs_nonneg _ u hu) (h.idem v hv u hu)), h.bare v hv] at h1
  exact h1.symm
theorem Mgu.eqv {σ : Int → Tm} {E F : List (Tm × Tm)} (h : Mgu σ E) (he : ∀ τ, Go.Proofs.YteegmcfobgpemaaGreat.uni τ E ↔ Go.Proofs.YteegmcfobgpemaaGreat.uni τ F) : Mgu σ F :=
  ⟨(he σ).1 h.uni, h.bare, h.idem, fun τ ht => h.most τ ((he τ).2 ht), h.low⟩
theorem Mgu.rep {σ τ : Int → Tm} {E : List (Tm × Tm)} (h : Mgu σ E) (ht : Go.Proofs.YteegmcfobgpemaaGreat.uni τ E) (t : Tm) : repT τ (repT σ t) = repT τ t := by
  rw [rep_two]
  revert t
  refine Tm.ind fun f l ih => ?_
  rcases Decidable.em (f < 0) with hf | hf
  · rw [repT_var (t := ⟨f, l⟩) hf, repT_var (t := ⟨f, l⟩) hf, h.most τ ht _ (by show 0 ≤ -1 - f; omega), Tm.strip_strip]
  · rw [repT_sym (t := ⟨f, l⟩) (by show ¬ f < 0; omega), repT_sym (t := ⟨f, l⟩) (by show ¬ f < 0; omega)]
    show (⟨f, l.map _⟩ : Tm) = ⟨f, l.map _⟩
    congr 1
    exact List.map_congr_left ih
theorem Mgu.rep_vs {σ : Int → Tm} {E : List (Tm × Tm)} (h : Mgu σ E) {t : Tm} {u : Int} (hu : u ∈ (repT σ t).vs) : σ u = varT u := by
  rw [repT_vs, List.mem_flatMap] at hu
  obtain ⟨v, hv, hu⟩ := hu
  exact h.idem v (vs_nonneg _ v hv) u hu
theorem Mgu.nil : Mgu varT [] :=
  ⟨fun p hp => (by cases hp), fun v hv => varT_strip v, fun v hv u hu => rfl, fun τ ht v hv => rep_varT hv, fun v hv hf => by rw [varT_f]; omega⟩

theorem Mgu.same {σ : Int → Tm} {E : List (Tm × Tm)} (h : Mgu σ E) {a b : Tm} (e : repT σ a = repT σ b) : Mgu σ (E ++ [(a, b)]) :=
  h.eqv fun τ => by
    rw [uni_app, uni_one]
    constructor
    · intro ht
      refine ⟨ht, ?_⟩
      rw [← h.rep ht a, e, h.rep ht b]
    · exact fun ht => ht.1
def oneS (x : Int) (b : Tm) (v : Int) : Tm := if v = x then b else varT v
theorem one_off {x : Int} {b t : Tm} (h : x ∉ t.vs) : repT (oneS x b) t = t.strip :=
  rep_idem fun u hu => if_neg fun (e : u = x) => h (e ▸ hu)
theorem Mgu.bind {σ : Int → Tm} {E : List (Tm × Tm)} (h : Mgu σ E) {a b : Tm} {x : Int} (hx : 0 ≤ x) (ha : repT σ a = varT x) (hb : x ∉ (repT σ b).vs) (hlow : (repT σ b).f < 0 → -1 - (repT σ b).f ≤ x) {σ2 : Int → Tm} (h2 : ∀ v, 0 ≤ v → σ2 v = repT (oneS x (repT σ b)) (σ v)) : Mgu σ2 (E ++ [(a, b)]) := by
  obtain ⟨B, hB⟩ : ∃ B, B = repT σ b := ⟨_, rfl⟩
  rw [← hB] at hb hlow h2
  have hBs : B.strip = B := by rw [hB, rep_bare]
  have hr : ∀ t, repT σ2 t = repT (oneS x B) (repT σ t) := fun t => by
    rw [rep_two]
    exact rep_congr fun v hv => h2 v (vs_nonneg _ v hv)
  have hxx : oneS x B x = B := if_pos rfl
  refine ⟨?_, fun v hv => by rw [h2 v hv, rep_bare], fun v hv u hu => ?_, fun τ ht v hv => ?_, fun v hv hf => ?_⟩
  · rw [uni_app, uni_one]
    refine ⟨fun p hp => by rw [hr, hr, h.uni p hp], ?_⟩
    rw [hr, hr, ha, rep_varT hx, hxx, ← hB, one_off hb]
  · rw [h2 v hv, repT_vs, List.mem_flatMap] at hu
    obtain ⟨w, hw, hu⟩ := hu
    have hw0 := vs_nonneg _ w hw
    have : σ u = varT u ∧ u ≠ x := by
      by_cases e : w = x
      · rw [e, hxx] at hu
        refine ⟨h.rep_vs (t := b) (by rw [← hB]; exact hu), fun e => hb (e ▸ hu)⟩
      · unfold oneS at hu
        rw [if_neg e, Tm.vs_var (by rw [varT_f]; omega), varT_f, List.mem_singleton] at hu
        have : u = w := by omega
        rw [this]
        exact ⟨h.idem v hv w hw, e⟩
    have hu0 : 0 ≤ u := vs_nonneg _ u hu
    rw [h2 u hu0, this.1, rep_varT hu0]
    unfold oneS
    rw [if_neg this.2, varT_strip]
  · rw [uni_app, uni_one] at ht
    rw [h2 v hv, rep_two, ← h.most τ ht.1 v hv]
    have : ∀ w ∈ (σ v).vs, repT τ (oneS x B w) = (τ w).strip := fun w hw => by
      have hw0 := vs_nonneg _ w hw
      by_cases e : w = x
      · rw [e, hxx, hB, h.rep ht.1, ← ht.2, ← h.rep ht.1, ha, rep_varT hx]
      · unfold oneS
        rw [if_neg e, rep_varT hw0]
    have h3 : ∀ t : Tm, (∀ w ∈ t.vs, repT τ (oneS x B w) = (τ w).strip) → repT (fun v => repT τ (oneS x B v)) t = repT τ t := by
      refine Tm.ind fun f l ih hw => ?_
      rcases Decidable.em (f < 0) with hf | hf
      · rw [repT_var (t := ⟨f, l⟩) hf, repT_var (t := ⟨f, l⟩) hf, hw _ (by rw [Tm.vs_var (t := ⟨f, l⟩) hf]; simp), Tm.strip_strip]
      · have hf' : ¬ (⟨f, l⟩ : Tm).f < 0 := by show ¬ f < 0; omega
        rw [repT_sym hf', repT_sym hf']
        rw [Tm.vs_sym hf'] at hw
        congr 1
        exact List.map_congr_left fun t ht => ih t ht fun w hw' => hw w (List.mem_flatMap.2 ⟨t, ht, hw'⟩)
    exact h3 _ this
  · rw [h2 v hv] at hf ⊢
    have h4 := var_of_rep hf
    have h5 := h.low v hv h4
    rw [repT_var h4] at hf ⊢
    obtain ⟨w, hw⟩ : ∃ w, w = -1 - (σ v).f := ⟨_, rfl⟩
    rw [← hw] at hf h5 ⊢
    by_cases e : w = x
    · rw [e, hxx, hBs] at hf ⊢
      have := hlow hf
      omega
    · unfold oneS
      rw [if_neg e, varT_strip, varT_f]
      omega
theorem no_occurs {τ : Int → Tm} {x : Int} {t : Tm} (hx : x ∈ t.vs) (ht : ¬ t.f < 0) : repT τ (varT x) ≠ repT τ t := by
  have hx0 := vs_nonneg _ x hx
  have key : ∀ t : Tm, x ∈ t.vs → (repT τ (varT x)).size ≤ (repT τ t).size ∧ (¬ t.f < 0 → (repT τ (varT x)).size < (repT τ t).size) := by
    refine Tm.ind fun f l ih hx => ?_
    rcases Decidable.em (f < 0) with hf | hf
    · rw [Tm.vs_var (t := ⟨f, l⟩) hf, List.mem_singleton] at hx
      refine ⟨?_, fun h => absurd hf h⟩
      rw [rep_varT hx0, repT_var (t := ⟨f, l⟩) hf, ← hx]
      exact Nat.le_refl _
    · have hf' : ¬ (⟨f, l⟩ : Tm).f < 0 := by show ¬ f < 0; omega
      rw [Tm.vs_sym hf', List.mem_flatMap] at hx
      obtain ⟨s, hs, hxs⟩ := hx
      have h1 := (ih s hs hxs).1
      have h2 : (repT τ s).size < (repT τ ⟨f, l⟩).size := by
        refine Tm.size_part ?_
        rw [repT_sym hf', Tm.ps_of_sym (by show 0 ≤ f; omega)]
        exact List.mem_map.2 ⟨s, hs, rfl⟩
      exact ⟨by omega, fun _ => by omega⟩
  intro e
  have := (key t hx).2 ht
  rw [e] at this
  exact Nat.lt_irrefl _ this
structure Joined (N : Nat) (T : Nat → Tm) (H K : Nat → Nat) (E : List (Tm × Tm)) : Prop where
  hd : ∀ n, n < N → H n < N ∧ H (H n) = H n
  low : ∀ n, n < N → (T n).f ≤ (T (H n)).f
  kid : ∀ n, n < N → ¬ (T n).f < 0 → ∀ i p, (T n).l[i]? = some p → K n + i < N ∧ T (K n + i) = p
  cls : ∀ n, n < N → ¬ (T n).f < 0 → (T (H n)).f = (T n).f ∧ (T (H n)).l.length = (T n).l.length ∧ ∀ i, i < (T n).l.length → H (K n + i) = H (K (H n) + i)
  var : ∀ n m, n < N → m < N → (T n).f < 0 → (T n).f = (T m).f → H n = H m
  pair : ∀ p ∈ E, ∃ n m, n < N ∧ m < N ∧ T n = p.1 ∧ T m = p.2 ∧ H n = H m
  sound : ∀ τ, uni τ E → ∀ n, n < N → repT τ (T n) = repT τ (T (H n))

section
variable {N : Nat} {T : Nat → Tm} {H K : Nat → Nat} {E : List (Tm × Tm)}
def OutOk (N : Nat) (T : Nat → Tm) (H K : Nat → Nat) (out : Nat → Tm) : Prop := ∀ h, h < N → H h = h → out h = ⟨(T h).f, if (T h).f < 0 then [] else (List.range (T h).l.length).map fun i => out (H (K h + i))⟩
def Ranked (N : Nat) (T : Nat → Tm) (H K : Nat → Nat) (ρ : Nat → Nat) : Prop := ∀ h, h < N → H h = h → ¬ (T h).f < 0 → ∀ i, i < (T h).l.length → ρ (H (K h + i)) < ρ h

theorem Joined.part (j : Joined N T H K E) {h : Nat} (hN : h < N) (hf : ¬ (T h).f < 0) {i : Nat} (hi : i < (T h).l.length) : K h + i < N ∧ T (K h + i) = (T h).l[i] ∧ H (K h + i) < N ∧ H (H (K h + i)) = H (K h + i) := by
  obtain ⟨h1, h2⟩ := j.kid h hN hf i _ (List.getElem?_eq_getElem hi)
  exact ⟨h1, h2, j.hd _ h1⟩
theorem Joined.ind (j : Joined N T H K E) {ρ : Nat → Nat} (hr : Ranked N T H K ρ) {Q : Nat → Prop} (hQ : ∀ h, h < N → H h = h → (¬ (T h).f < 0 → ∀ i, i < (T h).l.length → Q (H (K h + i))) → Q h) : ∀ h, h < N → H h = h → Q h := by
  intro h
  induction e : ρ h using Nat.strongRecOn generalizing h with
  | ind k ih =>
    intro hN hh
    refine hQ h hN hh fun hf i hi => ?_
    obtain ⟨_, _, h3, h4⟩ := j.part hN hf hi
    exact ih _ (by rw [← e]; exact hr h hN hh hf i hi) _ rfl h3 h4
theorem out_var {out : Nat → Tm} (ho : OutOk N T H K out) {h : Nat} (hN : h < N) (hh : H h = h) (hf : (T h).f < 0) : out h = ⟨(T h).f, []⟩ := by rw [ho h hN hh, if_pos hf]
theorem out_sym {out : Nat → Tm} (ho : OutOk N T H K out) {h : Nat} (hN : h < N) (hh : H h = h) (hf : ¬ (T h).f < 0) : out h = ⟨(T h).f, (List.range (T h).l.length).map fun i => out (H (K h + i))⟩ := by rw [ho h hN hh, if_neg hf]
theorem out_f {out : Nat → Tm} (ho : OutOk N T H K out) {h : Nat} (hN : h < N) (hh : H h = h) : (out h).f = (T h).f := by rw [ho h hN hh]
theorem map_range {l : List Tm} {g g' : Tm → Tm} {q : Nat → Tm} (h : ∀ i (hi : i < l.length), g l[i] = g' (q i)) : l.map g = ((List.range l.length).map q).map g' := by
  apply List.ext_getElem
  · simp
  · intro i h1 h2
    simp only [List.getElem_map, List.getElem_range]
    exact h i (by simpa using h1)
theorem Joined.out_bare (j : Joined N T H K E) {ρ : Nat → Nat} (hr : Ranked N T H K ρ) {out : Nat → Tm} (ho : OutOk N T H K out) : ∀ h, h < N → H h = h → (out h).strip = out h :=
  j.ind hr fun h hN hh ih => by
    by_cases hf : (T h).f < 0
    · rw [out_var ho hN hh hf, strip_of_var (t := ⟨(T h).f, []⟩) hf]
    · rw [out_sym ho hN hh hf, Tm.strip_eq, Tm.ps_of_sym (t := ⟨(T h).f, _⟩) (by show 0 ≤ (T h).f; omega)]
      congr 1
      rw [List.map_map]
      exact List.map_congr_left fun i hi => ih hf i (List.mem_range.1 hi)
structure Says (N : Nat) (T : Nat → Tm) (H : Nat → Nat) (out : Nat → Tm) (σ : Int → Tm) : Prop where
  at_ : ∀ n, n < N → (T n).f < 0 → σ (-1 - (T n).f) = out (H n)
  off : ∀ v, 0 ≤ v → (∀ n, n < N → (T n).f ≠ -1 - v) → σ v = varT v
theorem Joined.rep (j : Joined N T H K E) {ρ : Nat → Nat} (hr : Ranked N T H K ρ) {out : Nat → Tm} (ho : OutOk N T H K out) {σ : Int → Tm} (hs : Says N T H out σ) : ∀ (t : Tm) (n : Nat), n < N → T n = t → repT σ t = out (H n) := by
  refine Tm.ind fun f l ih n hN e => ?_
  obtain ⟨hH, hHH⟩ := j.hd n hN
  by_cases hf : f < 0
  · have := hs.at_ n hN (by rw [e]; exact hf)
    rw [e] at this
    rw [repT_var (t := ⟨f, l⟩) hf, this, j.out_bare hr ho _ hH hHH]
  · have hfn : ¬ (T n).f < 0 := by rw [e]; exact hf
    obtain ⟨c1, c2, c3⟩ := j.cls n hN hfn
    rw [repT_sym (t := ⟨f, l⟩) hf, out_sym ho hH hHH (by rw [c1]; exact hfn), c1, c2, e]
    congr 1
    have := map_range (l := l) (g := repT σ) (g' := id) (q := fun i => out (H (K (H n) + i))) fun i hi => by
      have hi' : i < (T n).l.length := by rw [e]; exact hi
      obtain ⟨p1, p2, _⟩ := j.part hN hfn hi'
      have p3 : (T n).l[i] = l[i] := by simp only [e]
      rw [ih l[i] (List.getElem_mem hi) (K n + i) p1 (by rw [p2, p3]), c3 i hi']
      rfl
    rw [this, List.map_id]
theorem Joined.most (j : Joined N T H K E) {ρ : Nat → Nat} (hr : Ranked N T H K ρ) {out : Nat → Tm} (ho : OutOk N T H K out) {τ : Int → Tm} (ht : uni τ E) : ∀ h, h < N → H h = h → repT τ (out h) = repT τ (T h) :=
  j.ind hr fun h hN hh ih => by
    by_cases hf : (T h).f < 0
    · rw [out_var ho hN hh hf, repT_var (t := ⟨(T h).f, []⟩) hf, repT_var hf]
    · rw [out_sym ho hN hh hf, repT_sym (t := ⟨(T h).f, _⟩) hf, repT_sym hf]
      congr 1
      refine (map_range fun i hi => ?_).symm
      obtain ⟨p1, p2, _⟩ := j.part hN hf hi
      rw [ih hf i hi, ← j.sound τ ht _ p1, p2]
theorem Joined.idem (j : Joined N T H K E) {ρ : Nat → Nat} (hr : Ranked N T H K ρ) {out : Nat → Tm} (ho : OutOk N T H K out) {σ : Int → Tm} (hs : Says N T H out σ) : ∀ h, h < N → H h = h → ∀ u ∈ (out h).vs, σ u = varT u :=
  j.ind hr fun h hN hh ih u hu => by
    by_cases hf : (T h).f < 0
    · have h1 := out_var ho hN hh hf
      rw [h1, Tm.vs_var (t := ⟨(T h).f, []⟩) hf, List.mem_singleton] at hu
      have h2 := hs.at_ h hN hf
      rw [hh, h1] at h2
      have hu : u = -1 - (T h).f := hu
      rw [hu, h2]
      unfold varT
      rw [show -1 - (-1 - (T h).f) = (T h).f by omega]
    · rw [out_sym ho hN hh hf, Tm.vs_sym (t := ⟨(T h).f, _⟩) hf, List.mem_flatMap] at hu
      obtain ⟨t, ht, hu⟩ := hu
      obtain ⟨i, hi, rfl⟩ := List.mem_map.1 ht
      exact ih hf i (List.mem_range.1 hi) u hu
theorem Joined.mgu (j : Joined N T H K E) {ρ : Nat → Nat} (hr : Ranked N T H K ρ) {out : Nat → Tm} (ho : OutOk N T H K out) {σ : Int → Tm} (hs : Says N T H out σ) : Mgu σ E := by
  have two : ∀ v, 0 ≤ v → (∃ n, n < N ∧ (T n).f = -1 - v ∧ σ v = out (H n)) ∨ σ v = varT v := fun v hv => by
    by_cases h : ∃ n, n < N ∧ (T n).f = -1 - v
    · obtain ⟨n, h1, h2⟩ := h
      have := hs.at_ n h1 (by omega)
      rw [h2, show -1 - (-1 - v) = v by omega] at this
      exact .inl ⟨n, h1, h2, this⟩
    · exact .inr (hs.off v hv fun n h1 h2 => h ⟨n, h1, h2⟩)
  refine ⟨fun p hp => ?_, fun v hv => ?_, fun v hv u hu => ?_, fun τ ht v hv => ?_, fun v hv hf => ?_⟩
  · obtain ⟨n, m, h1, h2, h3, h4, h5⟩ := j.pair p hp
    rw [j.rep hr ho hs p.1 n h1 h3, j.rep hr ho hs p.2 m h2 h4, h5]
  · rcases two v hv with ⟨n, h1, h2, h3⟩ | h3
    · rw [h3, j.out_bare hr ho _ (j.hd n h1).1 (j.hd n h1).2]
    · rw [h3, varT_strip]
  · rcases two v hv with ⟨n, h1, h2, h3⟩ | h3
    · rw [h3] at hu
      exact j.idem hr ho hs _ (j.hd n h1).1 (j.hd n h1).2 u hu
    · rw [h3, Tm.vs_var (by rw [varT_f]; omega), varT_f, List.mem_singleton] at hu
      rw [show u = v by omega]; exact h3
  · rcases two v hv with ⟨n, h1, h2, h3⟩ | h3
    · rw [h3, j.most hr ho ht _ (j.hd n h1).1 (j.hd n h1).2, ← j.sound τ ht n h1, repT_var (by omega), h2, show -1 - (-1 - v) = v by omega]
    · rw [h3, rep_varT hv]
  · rcases two v hv with ⟨n, h1, h2, h3⟩ | h3
    · have := j.low n h1
      rw [h3, out_f ho (j.hd n h1).1 (j.hd n h1).2]
      omega
    · rw [h3, varT_f]; omega
theorem Joined.no (j : Joined N T H K E) {O : Nat → Prop} (hO : ∀ h, h < N → H h = h → ¬ O h → ∃ g, g < N ∧ H g = g ∧ ¬ O g ∧ ¬ (T g).f < 0 ∧ ∃ i, i < (T g).l.length ∧ H (K g + i) = h) {h0 : Nat} (hN0 : h0 < N) (hh0 : H h0 = h0) (hn0 : ¬ O h0) (τ : Int → Tm) : ¬ uni τ E := by
  intro ht
  have up : ∀ k : Nat, ∃ h, h < N ∧ H h = h ∧ ¬ O h ∧ k ≤ (repT τ (T h)).size := fun k => by
    induction k with
    | zero => exact ⟨h0, hN0, hh0, hn0, Nat.zero_le _⟩
    | succ k ih =>
      obtain ⟨h, h1, h2, h3, h4⟩ := ih
      obtain ⟨g, g1, g2, g3, g4, i, g5, g6⟩ := hO h h1 h2 h3
      refine ⟨g, g1, g2, g3, ?_⟩
      obtain ⟨p1, p2, _⟩ := j.part g1 g4 g5
      have h5 : repT τ (T h) = repT τ (T g).l[i] := by rw [← g6, ← j.sound τ ht _ p1, p2]
      have h6 : (repT τ (T g).l[i]).size < (repT τ (T g)).size := by
        refine Tm.size_part ?_
        rw [repT_sym g4, Tm.ps_of_sym (t := ⟨(T g).f, _⟩) (by show 0 ≤ (T g).f; omega)]
        exact List.mem_map.2 ⟨_, List.getElem_mem g5, rfl⟩
      rw [h5] at h4
      omega
  have top : ∀ M : Nat, ∃ B, ∀ n, n < M → (repT τ (T n)).size ≤ B := fun M => by
    induction M with
    | zero => exact ⟨0, fun n hn => by omega⟩
    | succ M ih =>
      obtain ⟨B, hB⟩ := ih
      refine ⟨max B (repT τ (T M)).size, fun n hn => ?_⟩
      rcases Nat.lt_or_ge n M with h | h
      · exact Nat.le_trans (hB n h) (Nat.le_max_left _ _)
      · rw [show n = M by omega]; exact Nat.le_max_right _ _
  obtain ⟨B, hB⟩ := top N
  obtain ⟨h, h1, _, _, h4⟩ := up (B + 1)
  have := hB h h1
  omega
end
end Go.Proofs.YteegmcfobgpemaaGreat
