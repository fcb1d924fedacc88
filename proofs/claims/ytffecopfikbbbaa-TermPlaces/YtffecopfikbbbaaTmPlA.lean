/-
  term.parts, hasPart, cloneAll, At over trees; law06.under.
-/
import Derived.Test.YtffecopfikbbbaaAbBr
import Derived.Test.YtffecopfikbbbaaTmSm
import Derived.Test.YtffecopfikbbbaaAbLit
namespace Go.Proofs.Ytffecopfikbbbaa
open Go.RowKit
set_option linter.unusedVariables false
set_option linter.unusedSimpArgs false
set_option maxRecDepth 100000

-- 
theorem tIsVar_abs (W : World) (t : Tm) : AFun Try.prog W 33 [t.cw] (.val (.b (decide (t.f < 0)))) := by
  refine afun_of (rs := [.b (decide (t.f < 0))]) Try.func33 Try.ntmps33 rfl rfl rfl rfl ?_
  intro w U hW
  refine awp_seq (awp_region ?_)
  (refine ⟨_, _, _, a_box (gd_none rfl) rfl rfl rfl rfl rfl, rfl, ?_⟩)
  (refine ⟨_, _, _, a_assign (gd_none rfl) rfl rfl rfl rfl rfl, rfl, ?_⟩)
  show AWp _ _ _ _ _ _ _
  refine awp_seq (awp_region ?_)
  (first | (refine ⟨_, _, _, a_field_bp (gd_none rfl) rfl rfl rfl rfl rfl rfl rfl rfl rfl, rfl, ?_⟩) | (refine ⟨_, _, _, a_field_ad (gd_none rfl) rfl rfl rfl rfl rfl rfl rfl rfl rfl rfl rfl, rfl, ?_⟩))
  (first | (refine ⟨_, _, _, a_load_all (gd_none rfl) rfl rfl rfl rfl rfl rfl rfl rfl rfl rfl rfl rfl, rfl, ?_⟩) | (refine ⟨_, _, _, a_load_tok (gd_none rfl) rfl rfl rfl rfl rfl rfl rfl rfl rfl rfl rfl rfl rfl, rfl, ?_⟩) | (refine ⟨_, _, _, a_load_bp (gd_none rfl) rfl rfl rfl rfl rfl rfl rfl rfl rfl rfl rfl rfl, rfl, ?_⟩) | (refine ⟨_, _, _, a_load_ad (gd_none rfl) rfl rfl rfl rfl rfl rfl rfl rfl rfl, rfl, ?_⟩) | (refine ⟨_, _, _, a_load_ptr (gd_none rfl) rfl rfl rfl rfl rfl rfl rfl rfl rfl, rfl, ?_⟩))
  (refine ⟨_, _, _, a_lss (gd_none rfl) rfl rfl rfl rfl rfl rfl, rfl, ?_⟩)
  (refine ⟨_, _, _, a_assign (gd_none rfl) rfl rfl rfl rfl rfl, rfl, ?_⟩)
  show AWp _ _ _ _ _ _ _
  exact awp_ret ⟨.inr rfl, rfl⟩
-- 
theorem parts_abs (W : World) (t : Tm) : AFun Try.prog W 36 [t.cw] (.val (.lst (t.ps.map Tm.cv))) := by
  refine afun_of (rs := [.lst (t.ps.map Tm.cv)]) Try.func36 Try.ntmps36 rfl rfl rfl rfl ?_
  intro w U hW
  refine awp_seq (awp_region ?_)
  (refine ⟨_, _, _, a_box (gd_none rfl) rfl rfl rfl rfl rfl, rfl, ?_⟩)
  (refine ⟨_, _, _, a_assign (gd_none rfl) rfl rfl rfl rfl rfl, rfl, ?_⟩)
  show AWp _ _ _ _ _ _ _
  refine awp_seq (awp_seq (awp_region ?_))
  (first | (refine ⟨_, _, _, a_load_all (gd_none rfl) rfl rfl rfl rfl rfl rfl rfl rfl rfl rfl rfl rfl, rfl, ?_⟩) | (refine ⟨_, _, _, a_load_tok (gd_none rfl) rfl rfl rfl rfl rfl rfl rfl rfl rfl rfl rfl rfl rfl, rfl, ?_⟩) | (refine ⟨_, _, _, a_load_bp (gd_none rfl) rfl rfl rfl rfl rfl rfl rfl rfl rfl rfl rfl rfl, rfl, ?_⟩) | (refine ⟨_, _, _, a_load_ad (gd_none rfl) rfl rfl rfl rfl rfl rfl rfl rfl rfl, rfl, ?_⟩) | (refine ⟨_, _, _, a_load_ptr (gd_none rfl) rfl rfl rfl rfl rfl rfl rfl rfl rfl, rfl, ?_⟩))
  (refine ⟨_, _, _, a_call (gd_none rfl) rfl rfl rfl rfl rfl (tIsVar_abs w t), rfl, ?_⟩)
  show AWp _ _ _ _ _ _ _
  refine awp_cond rfl (fun hc => ?_) (fun hc => awp_skip ?_)
  · have hf : t.f < 0 := by simpa using hc
    rw [Tm.ps_of_var hf]
    refine awp_seq (awp_region ?_)
    (refine ⟨_, _, _, a_assign (gd_none rfl) rfl rfl rfl rfl rfl, rfl, ?_⟩)
    show AWp _ _ _ _ _ _ _
    exact awp_ret (And.intro (.inr rfl) rfl)
  · have hf : ¬ t.f < 0 := by simpa using hc
    rw [Tm.ps_of_sym (by omega)]
    show AWp _ _ _ _ _ _ _
    refine awp_seq (awp_region ?_)
    (first | (refine ⟨_, _, _, a_field_bp (gd_none rfl) rfl rfl rfl rfl rfl rfl rfl rfl rfl, rfl, ?_⟩) | (refine ⟨_, _, _, a_field_ad (gd_none rfl) rfl rfl rfl rfl rfl rfl rfl rfl rfl rfl rfl, rfl, ?_⟩))
    (first | (refine ⟨_, _, _, a_load_all (gd_none rfl) rfl rfl rfl rfl rfl rfl rfl rfl rfl rfl rfl rfl, rfl, ?_⟩) | (refine ⟨_, _, _, a_load_tok (gd_none rfl) rfl rfl rfl rfl rfl rfl rfl rfl rfl rfl rfl rfl rfl, rfl, ?_⟩) | (refine ⟨_, _, _, a_load_bp (gd_none rfl) rfl rfl rfl rfl rfl rfl rfl rfl rfl rfl rfl rfl, rfl, ?_⟩) | (refine ⟨_, _, _, a_load_ad (gd_none rfl) rfl rfl rfl rfl rfl rfl rfl rfl rfl, rfl, ?_⟩) | (refine ⟨_, _, _, a_load_ptr (gd_none rfl) rfl rfl rfl rfl rfl rfl rfl rfl rfl, rfl, ?_⟩))
    (refine ⟨_, _, _, a_assign (gd_none rfl) rfl rfl rfl rfl rfl, rfl, ?_⟩)
    show AWp _ _ _ _ _ _ _
    exact awp_ret (And.intro (.inr rfl) rfl)
/-- The part of a number. -/
def Tm.pa (t : Tm) (n : Int) : Option Tm := if 0 ≤ n then t.ps[n.toNat]? else none
theorem Tm.pa_some (t : Tm) (n : Int) : (t.pa n).isSome = (decide (n ≥ 0) && decide (n < (t.ps.map Tm.cv).length)) := by
  unfold Tm.pa
  rw [List.length_map]
  by_cases h : 0 ≤ n
  · rw [if_pos h, show decide (n ≥ 0) = true by simpa using h, Bool.true_and]
    by_cases h2 : n < t.ps.length
    · rw [List.getElem?_eq_getElem (by omega)]; simp [h2]
    · rw [List.getElem?_eq_none (by omega)]; simp [h2]
  · rw [if_neg h, show decide (n ≥ 0) = false by simpa using h]; rfl
-- 
theorem hasPart_abs (W : World) (t : Tm) (n : Int) : AFun Try.prog W 41 [t.cw, .i n] (.val (.b (t.pa n).isSome)) := by
  rw [Tm.pa_some]
  refine afun_of (rs := [.b (decide (n ≥ 0) && decide (n < (t.ps.map Tm.cv).length))]) Try.func41 Try.ntmps41 rfl rfl rfl rfl ?_
  intro w U hW
  refine awp_seq (awp_region ?_)
  (refine ⟨_, _, _, a_box (gd_none rfl) rfl rfl rfl rfl rfl, rfl, ?_⟩)
  (refine ⟨_, _, _, a_assign (gd_none rfl) rfl rfl rfl rfl rfl, rfl, ?_⟩)
  show AWp _ _ _ _ _ _ _
  by_cases h : n ≥ 0
  · have hg : decide (n ≥ 0) = true := by simpa using h
    refine awp_seq (awp_region ?_)
    (refine ⟨_, _, _, a_move (gd_none rfl) rfl rfl rfl rfl rfl, rfl, ?_⟩)
    (refine ⟨_, _, _, a_geq (gd_none rfl) rfl rfl rfl rfl rfl rfl, rfl, ?_⟩)
    (refine ⟨_, _, _, a_move (gd_none rfl) rfl rfl rfl rfl rfl, rfl, ?_⟩)
    (refine ⟨_, _, _, a_move (gd_on rfl rfl rfl rfl (by first | rfl | assumption | (simp; done))) rfl rfl rfl rfl rfl, rfl, ?_⟩)
    (first | (refine ⟨_, _, _, a_load_all (gd_on rfl rfl rfl rfl (by first | rfl | assumption | (simp; done))) rfl rfl rfl rfl rfl rfl rfl rfl rfl rfl rfl rfl, rfl, ?_⟩) | (refine ⟨_, _, _, a_load_tok (gd_on rfl rfl rfl rfl (by first | rfl | assumption | (simp; done))) rfl rfl rfl rfl rfl rfl rfl rfl rfl rfl rfl rfl rfl, rfl, ?_⟩) | (refine ⟨_, _, _, a_load_bp (gd_on rfl rfl rfl rfl (by first | rfl | assumption | (simp; done))) rfl rfl rfl rfl rfl rfl rfl rfl rfl rfl rfl rfl, rfl, ?_⟩) | (refine ⟨_, _, _, a_load_ad (gd_on rfl rfl rfl rfl (by first | rfl | assumption | (simp; done))) rfl rfl rfl rfl rfl rfl rfl rfl rfl, rfl, ?_⟩) | (refine ⟨_, _, _, a_load_ptr (gd_on rfl rfl rfl rfl (by first | rfl | assumption | (simp; done))) rfl rfl rfl rfl rfl rfl rfl rfl rfl, rfl, ?_⟩))
    (refine ⟨_, _, _, a_call (gd_on rfl rfl rfl rfl (by first | rfl | assumption | (simp; done))) rfl rfl rfl rfl rfl (parts_abs w t), rfl, ?_⟩)
    (refine ⟨_, _, _, a_len (gd_on rfl rfl rfl rfl (by first | rfl | assumption | (simp; done))) rfl rfl rfl rfl rfl rfl rfl, rfl, ?_⟩)
    (refine ⟨_, _, _, a_lss (gd_on rfl rfl rfl rfl (by first | rfl | assumption | (simp; done))) rfl rfl rfl rfl rfl rfl, rfl, ?_⟩)
    (first | (refine ⟨_, _, _, a_pick_t (gd_none rfl) rfl rfl rfl rfl rfl ?hb rfl, rfl, ?_⟩; case hb => (first | rfl | assumption | (simp; done))) | (refine ⟨_, _, _, a_pick_f (gd_none rfl) rfl rfl rfl rfl rfl ?hb rfl, rfl, ?_⟩; case hb => (first | rfl | assumption | (simp; done))))
    (refine ⟨_, _, _, a_assign (gd_none rfl) rfl rfl rfl rfl rfl, rfl, ?_⟩)
    show AWp _ _ _ _ _ _ _
    refine awp_ret (And.intro (.inr rfl) ?_)
    rw [hg, Bool.true_and]
    rfl
  · have hg : decide (n ≥ 0) = false := by simpa using h
    refine awp_seq (awp_region ?_)
    (refine ⟨_, _, _, a_move (gd_none rfl) rfl rfl rfl rfl rfl, rfl, ?_⟩)
    (refine ⟨_, _, _, a_geq (gd_none rfl) rfl rfl rfl rfl rfl rfl, rfl, ?_⟩)
    (refine ⟨_, _, _, a_move (gd_none rfl) rfl rfl rfl rfl rfl, rfl, ?_⟩)
    (refine ⟨_, _, _, a_off (go_off rfl rfl rfl rfl (by first | rfl | assumption | (simp; done) | (simp [*]; done))) rfl rfl rfl, rfl, ?_⟩)
    (refine ⟨_, _, _, a_off (go_off rfl rfl rfl rfl (by first | rfl | assumption | (simp; done) | (simp [*]; done))) rfl rfl rfl, rfl, ?_⟩)
    (refine ⟨_, _, _, a_off (go_off rfl rfl rfl rfl (by first | rfl | assumption | (simp; done) | (simp [*]; done))) rfl rfl rfl, rfl, ?_⟩)
    (refine ⟨_, _, _, a_off (go_off rfl rfl rfl rfl (by first | rfl | assumption | (simp; done) | (simp [*]; done))) rfl rfl rfl, rfl, ?_⟩)
    (refine ⟨_, _, _, a_off (go_off rfl rfl rfl rfl (by first | rfl | assumption | (simp; done) | (simp [*]; done))) rfl rfl rfl, rfl, ?_⟩)
    (first | (refine ⟨_, _, _, a_pick_t (gd_none rfl) rfl rfl rfl rfl rfl ?hb rfl, rfl, ?_⟩; case hb => (first | rfl | assumption | (simp; done))) | (refine ⟨_, _, _, a_pick_f (gd_none rfl) rfl rfl rfl rfl rfl ?hb rfl, rfl, ?_⟩; case hb => (first | rfl | assumption | (simp; done))))
    (refine ⟨_, _, _, a_assign (gd_none rfl) rfl rfl rfl rfl rfl, rfl, ?_⟩)
    show AWp _ _ _ _ _ _ _
    refine awp_ret (And.intro (.inr rfl) ?_)
    rw [hg, Bool.false_and]
    rfl
-- 
set_option maxHeartbeats 1000000 in
theorem cloneAll_abs (W : World) (l : List Tm) (hl : l.length ≤ 1000000) (hr : ∀ t ∈ l, t.rng ∧ t.size ≤ 1000000000) : AFun Try.prog W 39 [.lst (l.map Tm.cv)] (.val (.lst ((l.map Tm.strip).map Tm.cv))) := by
  have hsz := Tm.size_all l
  refine afun_of (rs := [.lst ((l.map Tm.strip).map Tm.cv)]) Try.func39 Try.ntmps39 rfl rfl rfl rfl ?_
  intro w U hW
  refine awp_seq (awp_region ?_)
  (refine ⟨_, _, _, a_assign (gd_none rfl) rfl rfl rfl rfl rfl, rfl, ?_⟩)
  show AWp _ _ _ _ _ _ _
  refine awp_seq (awp_region ?_)
  (refine ⟨_, _, _, a_assign (gd_none rfl) rfl rfl rfl rfl rfl, rfl, ?_⟩)
  show AWp _ _ _ _ _ _ _
  refine awp_seq (awp_seq (awp_region ?_))
  (refine ⟨_, _, _, a_move (gd_none rfl) rfl rfl rfl rfl rfl, rfl, ?_⟩)
  (refine ⟨_, _, _, a_len (gd_none rfl) rfl rfl rfl rfl rfl rfl rfl, rfl, ?_⟩)
  (refine ⟨_, _, _, a_move (gd_none rfl) rfl rfl rfl rfl rfl, rfl, ?_⟩)
  show AWp _ _ _ _ _ _ _
  refine awp_block (awp_count l.length (fun k => [(3, .own (.lst (((l.take k).map Tm.strip).map Tm.cv)) 200016), (200016, .tok 29 2), (6, .val (.lst (l.map Tm.cv))), (7, .val (.i (l.map Tm.cv).length)), (8, .val (.i k))])
    ((wk_nil 3 200016 29 2 rfl rfl rfl rfl rfl rfl rfl).trans (wk_sub ⟨rfl, rfl, rfl, rfl, rfl, trivial⟩)) ?_)
  intro k hk
  have hsk := Tm.size_all ((l.take k).map Tm.strip)
  refine awp_seq (awp_region ?_)
  (refine ⟨_, _, _, a_lss (gd_none rfl) rfl rfl rfl rfl rfl rfl, rfl, ?_⟩)
  show AWp _ _ _ _ _ _ _
  refine awp_seq (awp_cond rfl (fun hc => awp_skip ?_) (fun hc => awp_exit ?_))
  · have hkl : k < l.length := by
      simp only [List.length_map, decide_eq_true_eq] at hc
      omega
    clear hc
    obtain ⟨t, ht⟩ : ∃ t, l[k]? = some t := ⟨l[k], List.getElem?_eq_getElem hkl⟩
    have ht' := Tm.map_at ht
    have htm := hr t (List.mem_of_getElem? ht)
    show AWp _ _ _ _ _ _ _
    refine awp_seq (awp_block (awp_seq (awp_region ?_)))
    (refine ⟨_, _, _, a_index (gd_none rfl) rfl rfl rfl rfl rfl rfl rfl rfl rfl (by assumption) rfl (by first | assumption | exact szAll_spec rfl | exact Tm.size_all _ | exact Bd.size_all _ | exact ints_size _), rfl, ?_⟩)
    (first | (refine ⟨_, _, _, a_load_all (gd_none rfl) rfl rfl rfl rfl rfl rfl rfl rfl rfl rfl rfl rfl, rfl, ?_⟩) | (refine ⟨_, _, _, a_load_tok (gd_none rfl) rfl rfl rfl rfl rfl rfl rfl rfl rfl rfl rfl rfl rfl, rfl, ?_⟩) | (refine ⟨_, _, _, a_load_bp (gd_none rfl) rfl rfl rfl rfl rfl rfl rfl rfl rfl rfl rfl rfl, rfl, ?_⟩) | (refine ⟨_, _, _, a_load_ad (gd_none rfl) rfl rfl rfl rfl rfl rfl rfl rfl rfl, rfl, ?_⟩) | (refine ⟨_, _, _, a_load_ptr (gd_none rfl) rfl rfl rfl rfl rfl rfl rfl rfl rfl, rfl, ?_⟩))
    (refine ⟨_, _, _, a_alloc (gd_none rfl) rfl rfl rfl rfl rfl rfl rfl rfl rfl rfl, rfl, ?_⟩)
    (first | (refine ⟨_, _, _, a_store_all (gd_none rfl) rfl rfl rfl rfl rfl rfl rfl rfl rfl rfl, rfl, ?_⟩) | (refine ⟨_, _, _, a_store (gd_none rfl) rfl rfl rfl rfl rfl rfl rfl rfl rfl rfl, rfl, ?_⟩))
    show AWp _ _ _ _ _ _ _
    refine awp_region ?_
    (refine ⟨_, _, _, a_move (gd_none rfl) rfl rfl rfl rfl rfl, rfl, ?_⟩)
    (first | (refine ⟨_, _, _, a_load_all (gd_none rfl) rfl rfl rfl rfl rfl rfl rfl rfl rfl rfl rfl rfl, rfl, ?_⟩) | (refine ⟨_, _, _, a_load_tok (gd_none rfl) rfl rfl rfl rfl rfl rfl rfl rfl rfl rfl rfl rfl rfl, rfl, ?_⟩) | (refine ⟨_, _, _, a_load_bp (gd_none rfl) rfl rfl rfl rfl rfl rfl rfl rfl rfl rfl rfl rfl, rfl, ?_⟩) | (refine ⟨_, _, _, a_load_ad (gd_none rfl) rfl rfl rfl rfl rfl rfl rfl rfl rfl, rfl, ?_⟩) | (refine ⟨_, _, _, a_load_ptr (gd_none rfl) rfl rfl rfl rfl rfl rfl rfl rfl rfl, rfl, ?_⟩))
    (refine ⟨_, _, _, a_call (gd_none rfl) rfl rfl rfl rfl rfl (clone_abs w htm.1 htm.2), rfl, ?_⟩)
    (refine ⟨_, _, _, a_bslice (gd_none rfl) rfl rfl rfl rfl rfl rfl rfl rfl rfl rfl rfl rfl rfl, rfl, ?_⟩)
    (first | (refine ⟨_, _, _, a_app (gd_none rfl) rfl rfl rfl rfl rfl rfl rfl rfl rfl rfl rfl rfl rfl rfl (by first | assumption | exact szAll_spec rfl | exact Tm.size_all _ | exact Bd.size_all _ | exact ints_size _) (by first | assumption | exact szAll_spec rfl | exact Tm.size_all _ | exact Bd.size_all _ | exact ints_size _) (by first | omega | (simp only [List.length_map, List.length_append, List.length_cons, List.length_nil]; omega) | (simp; omega)), rfl, ?_⟩) | (refine ⟨_, _, _, a_app_nil (gd_none rfl) rfl rfl rfl rfl rfl rfl rfl rfl rfl rfl rfl (by first | assumption | exact szAll_spec rfl | exact Tm.size_all _ | exact Bd.size_all _ | exact ints_size _) (by first | assumption | exact szAll_spec rfl | exact Tm.size_all _ | exact Bd.size_all _ | exact ints_size _) (by first | omega | (simp only [List.length_map, List.length_append, List.length_cons, List.length_nil]; omega) | (simp; omega)), rfl, ?_⟩))
    (refine ⟨_, _, _, a_assign (gd_none rfl) rfl rfl rfl rfl rfl, rfl, ?_⟩)
    show AWp _ _ _ _ _ _ _
    refine awp_region ?_
    (refine ⟨_, _, _, a_add (gd_none rfl) rfl rfl rfl rfl rfl rfl (by first | omega | (simp only [List.length_map, List.length_append, List.length_cons, List.length_nil]; omega) | (simp; omega)), rfl, ?_⟩)
    (refine ⟨_, _, _, a_move (gd_none rfl) rfl rfl rfl rfl rfl, rfl, ?_⟩)
    refine ⟨hkl, Wk.trans (wk_sub (s' := [(3, .own (.lst (((l.take (k + 1)).map Tm.strip).map Tm.cv)) 300016), (300016, .tok 29 2), (6, .val (.lst (l.map Tm.cv))), (7, .val (.i (l.map Tm.cv).length)), (8, .val (.i ((k + 1 : Nat) : Int)))]) ⟨?_, rfl, rfl, rfl, rfl, trivial⟩) (wk_ren 300016 200016 rfl rfl rfl rfl)⟩
    rw [List.take_add_one, ht, List.map_append, List.map_append]
    simp only [Option.toList_some, List.map_cons, List.map_nil, Tm.cv_eq]
    rfl
  · have hkl : k = l.length := by
      simp only [List.length_map, decide_eq_false_iff_not] at hc
      omega
    subst hkl
    rw [List.take_length]
    show AWp _ _ _ _ _ _ _
    refine awp_seq (awp_region ?_)
    (refine ⟨_, _, _, a_move (gd_none rfl) rfl rfl rfl rfl rfl, rfl, ?_⟩)
    (refine ⟨_, _, _, a_assign (gd_none rfl) rfl rfl rfl rfl rfl, rfl, ?_⟩)
    show AWp _ _ _ _ _ _ _
    exact awp_ret (And.intro (.inr rfl) rfl)

/-- Does q stand at p's head? -/
def undB (p q : List Int) : Bool := decide (q = p.take q.length)
-- 
set_option maxHeartbeats 1000000 in
theorem under_abs (W : World) (p q : List Int) (hq : q.length ≤ 1000000) : AFun Try.prog W 30 [.lst (p.map CV.i), .lst (q.map CV.i)] (.val (.b (undB p q))) := by
  have hsp := ints_size p
  have hsq := ints_size q
  refine afun_of (rs := [.b (undB p q)]) Try.func30 Try.ntmps30 rfl rfl rfl rfl ?_
  intro w U hW
  refine awp_seq (awp_region ?_)
  (refine ⟨_, _, _, a_assign (gd_none rfl) rfl rfl rfl rfl rfl, rfl, ?_⟩)
  show AWp _ _ _ _ _ _ _
  refine awp_seq (awp_seq (awp_region ?_))
  (refine ⟨_, _, _, a_move (gd_none rfl) rfl rfl rfl rfl rfl, rfl, ?_⟩)
  (refine ⟨_, _, _, a_len (gd_none rfl) rfl rfl rfl rfl rfl rfl rfl, rfl, ?_⟩)
  (refine ⟨_, _, _, a_move (gd_none rfl) rfl rfl rfl rfl rfl, rfl, ?_⟩)
  (refine ⟨_, _, _, a_len (gd_none rfl) rfl rfl rfl rfl rfl rfl rfl, rfl, ?_⟩)
  (refine ⟨_, _, _, a_lss (gd_none rfl) rfl rfl rfl rfl rfl rfl, rfl, ?_⟩)
  show AWp _ _ _ _ _ _ _
  refine awp_cond rfl (fun hc => ?_) (fun hc => awp_skip ?_)
  · have h : p.length < q.length := by
      simp only [List.length_map, decide_eq_true_eq] at hc
      omega
    rw [show undB p q = false by
      unfold undB
      rw [decide_eq_false_iff_not]
      intro e
      have := congrArg List.length e
      rw [List.length_take] at this
      omega]
    refine awp_seq (awp_region ?_)
    (refine ⟨_, _, _, a_assign (gd_none rfl) rfl rfl rfl rfl rfl, rfl, ?_⟩)
    show AWp _ _ _ _ _ _ _
    exact awp_ret (And.intro (.inr rfl) rfl)
  have h : q.length ≤ p.length := by
    simp only [List.length_map, decide_eq_false_iff_not] at hc
    omega
  clear hc
  show AWp _ _ _ _ _ _ _
  refine awp_seq (awp_seq (awp_region ?_))
  (refine ⟨_, _, _, a_assign (gd_none rfl) rfl rfl rfl rfl rfl, rfl, ?_⟩)
  show AWp _ _ _ _ _ _ _
  refine awp_block (awp_countI q.length (fun k => q.take k = p.take k) (fun k => [(0, .val (.lst (p.map CV.i))), (1, .val (.lst (q.map CV.i))), (5, .val (.i k))]) (wk_sub ⟨rfl, rfl, rfl, trivial⟩) (by simp) ?_)
  intro k hk hI
  refine awp_seq (awp_seq (awp_region ?_))
  (refine ⟨_, _, _, a_move (gd_none rfl) rfl rfl rfl rfl rfl, rfl, ?_⟩)
  (refine ⟨_, _, _, a_move (gd_none rfl) rfl rfl rfl rfl rfl, rfl, ?_⟩)
  (refine ⟨_, _, _, a_len (gd_none rfl) rfl rfl rfl rfl rfl rfl rfl, rfl, ?_⟩)
  (refine ⟨_, _, _, a_lss (gd_none rfl) rfl rfl rfl rfl rfl rfl, rfl, ?_⟩)
  show AWp _ _ _ _ _ _ _
  refine awp_cond rfl (fun hc => awp_skip ?_) (fun hc => awp_exit ?_)
  · have hkl : k < q.length := by
      simp only [List.length_map, decide_eq_true_eq] at hc
      omega
    clear hc
    obtain ⟨x, hx⟩ : ∃ x, p[k]? = some x := ⟨p[k], List.getElem?_eq_getElem (by omega)⟩
    obtain ⟨y, hy⟩ : ∃ x, q[k]? = some x := ⟨q[k], List.getElem?_eq_getElem hkl⟩
    have hx' := ints_at hx
    have hy' := ints_at hy
    show AWp _ _ _ _ _ _ _
    refine awp_seq (awp_block (awp_seq (awp_draw (by kernel_rfl) (by kernel_rfl) ?_)))
    (refine ⟨_, _, _, a_move (gd_none rfl) rfl rfl rfl rfl rfl, rfl, ?_⟩)
    (refine ⟨_, _, _, a_move (gd_none rfl) rfl rfl rfl rfl rfl, rfl, ?_⟩)
    (refine ⟨_, _, _, a_index (gd_none rfl) rfl rfl rfl rfl rfl rfl rfl rfl rfl (by assumption) rfl (by first | assumption | exact szAll_spec rfl | exact Tm.size_all _ | exact Bd.size_all _ | exact ints_size _), rfl, ?_⟩)
    (first | (refine ⟨_, _, _, a_load_all (gd_none rfl) rfl rfl rfl rfl rfl rfl rfl rfl rfl rfl rfl rfl, rfl, ?_⟩) | (refine ⟨_, _, _, a_load_tok (gd_none rfl) rfl rfl rfl rfl rfl rfl rfl rfl rfl rfl rfl rfl rfl, rfl, ?_⟩) | (refine ⟨_, _, _, a_load_bp (gd_none rfl) rfl rfl rfl rfl rfl rfl rfl rfl rfl rfl rfl rfl, rfl, ?_⟩) | (refine ⟨_, _, _, a_load_ad (gd_none rfl) rfl rfl rfl rfl rfl rfl rfl rfl rfl, rfl, ?_⟩) | (refine ⟨_, _, _, a_load_ptr (gd_none rfl) rfl rfl rfl rfl rfl rfl rfl rfl rfl, rfl, ?_⟩))
    (refine ⟨_, _, _, a_move (gd_none rfl) rfl rfl rfl rfl rfl, rfl, ?_⟩)
    (refine ⟨_, _, _, a_move (gd_none rfl) rfl rfl rfl rfl rfl, rfl, ?_⟩)
    (refine ⟨_, _, _, a_index (gd_none rfl) rfl rfl rfl rfl rfl rfl rfl rfl rfl (by assumption) rfl (by first | assumption | exact szAll_spec rfl | exact Tm.size_all _ | exact Bd.size_all _ | exact ints_size _), rfl, ?_⟩)
    (first | (refine ⟨_, _, _, a_load_all (gd_none rfl) rfl rfl rfl rfl rfl rfl rfl rfl rfl rfl rfl rfl, rfl, ?_⟩) | (refine ⟨_, _, _, a_load_tok (gd_none rfl) rfl rfl rfl rfl rfl rfl rfl rfl rfl rfl rfl rfl rfl, rfl, ?_⟩) | (refine ⟨_, _, _, a_load_bp (gd_none rfl) rfl rfl rfl rfl rfl rfl rfl rfl rfl rfl rfl rfl, rfl, ?_⟩) | (refine ⟨_, _, _, a_load_ad (gd_none rfl) rfl rfl rfl rfl rfl rfl rfl rfl rfl, rfl, ?_⟩) | (refine ⟨_, _, _, a_load_ptr (gd_none rfl) rfl rfl rfl rfl rfl rfl rfl rfl rfl, rfl, ?_⟩))
    (first | (refine ⟨_, _, _, a_neq (gd_none rfl) rfl rfl rfl rfl rfl rfl, rfl, ?_⟩) | (refine ⟨_, _, _, a_bne (gd_none rfl) rfl rfl rfl rfl rfl rfl rfl, rfl, ?_⟩))
    refine ⟨by kernel_rfl, ?_⟩
    show AWp _ _ _ _ _ _ _
    refine awp_cond rfl (fun hc => ?_) (fun hc => awp_skip ?_)
    · have hne : x ≠ y := by simpa using hc
      rw [show undB p q = false by
        unfold undB
        rw [decide_eq_false_iff_not]
        intro e
        have : q[k]? = (p.take q.length)[k]? := by rw [← e]
        rw [List.getElem?_take_of_lt hkl, hx, hy] at this
        exact hne (Option.some.inj this).symm]
      refine awp_seq (awp_region ?_)
      (refine ⟨_, _, _, a_assign (gd_none rfl) rfl rfl rfl rfl rfl, rfl, ?_⟩)
      show AWp _ _ _ _ _ _ _
      exact awp_ret (And.intro (.inr rfl) rfl)
    have he : x = y := by simpa using hc
    clear hc
    show AWp _ _ _ _ _ _ _
    refine awp_region ?_
    (refine ⟨_, _, _, a_move (gd_none rfl) rfl rfl rfl rfl rfl, rfl, ?_⟩)
    (refine ⟨_, _, _, a_add (gd_none rfl) rfl rfl rfl rfl rfl rfl (by first | omega | (simp only [List.length_map, List.length_append, List.length_cons, List.length_nil]; omega) | (simp; omega)), rfl, ?_⟩)
    (refine ⟨_, _, _, a_assign (gd_none rfl) rfl rfl rfl rfl rfl, rfl, ?_⟩)
    refine ⟨hkl, ?_, wk_sub ⟨rfl, rfl, rfl, trivial⟩⟩
    show q.take (k + 1) = p.take (k + 1)
    rw [List.take_add_one, List.take_add_one, hI, hx, hy, he]
  · have hkl : k = q.length := by
      simp only [List.length_map, decide_eq_false_iff_not] at hc
      omega
    subst hkl
    rw [List.take_length] at hI
    rw [show undB p q = true by unfold undB; simpa using hI]
    show AWp _ _ _ _ _ _ _
    refine awp_seq (awp_region ?_)
    (refine ⟨_, _, _, a_assign (gd_none rfl) rfl rfl rfl rfl rfl, rfl, ?_⟩)
    show AWp _ _ _ _ _ _ _
    exact awp_ret (And.intro (.inr rfl) rfl)

/-- What stands at a place. -/
def atP : List Int → Tm → Option Tm
  | [], t => some t
  | k :: ks, t => (t.pa k).bind (atP ks)
theorem atP_append (p q : List Int) (t : Tm) : atP (p ++ q) t = (atP p t).bind (atP q) := by
  induction p generalizing t with
  | nil => rfl
  | cons k ks ih =>
    rw [List.cons_append, atP, atP]
    cases t.pa k with
    | none => rfl
    | some s => exact ih s
theorem pa_mem {t s : Tm} {n : Int} (h : t.pa n = some s) : s ∈ t.ps := by
  unfold Tm.pa at h
  split at h
  · exact List.mem_of_getElem? h
  · cases h
theorem pa_sym {t s : Tm} {n : Int} (h : t.pa n = some s) : ¬ t.f < 0 := by
  intro hf
  have := pa_mem h
  rw [Tm.ps_of_var hf] at this
  cases this
theorem pa_size {t s : Tm} {n : Int} (h : t.pa n = some s) : s.size ≤ t.size := by
  have hm := pa_mem h
  have h1 := Tm.size_eq t
  have := flatMap_len_mem Tm.flat hm
  have h2 : s.size = s.flat.length := rfl
  omega
theorem atP_ok : ∀ {p : List Int} {t s : Tm}, atP p t = some s → t.rng → s.rng ∧ s.size ≤ t.size
  | [], t, s, h, hr => by cases h; exact ⟨hr, Nat.le_refl _⟩
  | k :: ks, t, s, h, hr => by
    rw [atP] at h
    cases hp : t.pa k with
    | none => rw [hp] at h; cases h
    | some u =>
      rw [hp] at h
      have hu := ((Tm.rng_iff _).1 hr).2 u (Tm.ps_mem (pa_mem hp)).1
      have h2 := atP_ok (p := ks) h hu
      exact ⟨h2.1, Nat.le_trans h2.2 (pa_size hp)⟩
def stepP (p : List Int) (t : Tm) (k : Nat) : Tm := (atP (p.take k) t).getD ⟨0, []⟩
-- 
set_option maxHeartbeats 1000000 in
theorem at_abs (W : World) (t : Tm) (p : List Int) (hp : p.length ≤ 1000000) (hr : t.rng) (hs : t.size ≤ 1000000000) : AFun Try.prog W 27 [t.cw, .lst (p.map CV.i)] (.tup [(((atP p t).map Tm.strip).getD ⟨0, []⟩).cw, .b (atP p t).isSome]) := by
  have hsp := ints_size p
  refine afun_of (rs := [(((atP p t).map Tm.strip).getD ⟨0, []⟩).cw, .b (atP p t).isSome]) Try.func27 Try.ntmps27 rfl rfl rfl rfl ?_
  intro w U hW
  refine awp_seq (awp_region ?_)
  (refine ⟨_, _, _, a_box (gd_none rfl) rfl rfl rfl rfl rfl, rfl, ?_⟩)
  (refine ⟨_, _, _, a_alloc (gd_none rfl) rfl rfl rfl rfl rfl rfl rfl rfl rfl rfl, rfl, ?_⟩)
  (refine ⟨_, _, _, a_assign (gd_none rfl) rfl rfl rfl rfl rfl, rfl, ?_⟩)
  show AWp _ _ _ _ _ _ _
  refine awp_seq (awp_seq (awp_region ?_))
  (refine ⟨_, _, _, a_move (gd_none rfl) rfl rfl rfl rfl rfl, rfl, ?_⟩)
  (refine ⟨_, _, _, a_len (gd_none rfl) rfl rfl rfl rfl rfl rfl rfl, rfl, ?_⟩)
  (refine ⟨_, _, _, a_move (gd_none rfl) rfl rfl rfl rfl rfl, rfl, ?_⟩)
  show AWp _ _ _ _ _ _ _
  refine awp_block (awp_countI p.length (fun k => atP (p.take k) t = some (stepP p t k)) (fun k => [(2, .bp 2 0 []), (100002, .bx (stepP p t k).cw), (4, .bp 4 0 []), (100004, ⟨5, .row [.i 0, .lst []], 1, 0, [1]⟩), (8, .val (.lst (p.map CV.i))), (9, .val (.i (p.map CV.i).length)), (10, .val (.i k))]) (wk_sub ⟨rfl, rfl, rfl, rfl, rfl, rfl, rfl, trivial⟩) rfl ?_)
  intro k hk hI
  obtain ⟨s, hsd⟩ : ∃ s, s = stepP p t k := ⟨_, rfl⟩
  rw [← hsd] at hI ⊢
  refine awp_seq (awp_region ?_)
  (refine ⟨_, _, _, a_lss (gd_none rfl) rfl rfl rfl rfl rfl rfl, rfl, ?_⟩)
  show AWp _ _ _ _ _ _ _
  refine awp_seq (awp_cond rfl (fun hc => awp_skip ?_) (fun hc => awp_exit ?_))
  · have hkl : k < p.length := by
      simp only [List.length_map, decide_eq_true_eq] at hc
      omega
    clear hc
    obtain ⟨n, hn⟩ : ∃ x, p[k]? = some x := ⟨p[k], List.getElem?_eq_getElem hkl⟩
    have hn' := ints_at hn
    show AWp _ _ _ _ _ _ _
    refine awp_seq (awp_block (awp_seq (awp_region ?_)))
    (refine ⟨_, _, _, a_index (gd_none rfl) rfl rfl rfl rfl rfl rfl rfl rfl rfl (by assumption) rfl (by first | assumption | exact szAll_spec rfl | exact Tm.size_all _ | exact Bd.size_all _ | exact ints_size _), rfl, ?_⟩)
    (first | (refine ⟨_, _, _, a_load_all (gd_none rfl) rfl rfl rfl rfl rfl rfl rfl rfl rfl rfl rfl rfl, rfl, ?_⟩) | (refine ⟨_, _, _, a_load_tok (gd_none rfl) rfl rfl rfl rfl rfl rfl rfl rfl rfl rfl rfl rfl rfl, rfl, ?_⟩) | (refine ⟨_, _, _, a_load_bp (gd_none rfl) rfl rfl rfl rfl rfl rfl rfl rfl rfl rfl rfl rfl, rfl, ?_⟩) | (refine ⟨_, _, _, a_load_ad (gd_none rfl) rfl rfl rfl rfl rfl rfl rfl rfl rfl, rfl, ?_⟩) | (refine ⟨_, _, _, a_load_ptr (gd_none rfl) rfl rfl rfl rfl rfl rfl rfl rfl rfl, rfl, ?_⟩))
    (refine ⟨_, _, _, a_assign (gd_none rfl) rfl rfl rfl rfl rfl, rfl, ?_⟩)
    show AWp _ _ _ _ _ _ _
    refine awp_seq (awp_seq (awp_region ?_))
    (first | (refine ⟨_, _, _, a_load_all (gd_none rfl) rfl rfl rfl rfl rfl rfl rfl rfl rfl rfl rfl rfl, rfl, ?_⟩) | (refine ⟨_, _, _, a_load_tok (gd_none rfl) rfl rfl rfl rfl rfl rfl rfl rfl rfl rfl rfl rfl rfl, rfl, ?_⟩) | (refine ⟨_, _, _, a_load_bp (gd_none rfl) rfl rfl rfl rfl rfl rfl rfl rfl rfl rfl rfl rfl, rfl, ?_⟩) | (refine ⟨_, _, _, a_load_ad (gd_none rfl) rfl rfl rfl rfl rfl rfl rfl rfl rfl, rfl, ?_⟩) | (refine ⟨_, _, _, a_load_ptr (gd_none rfl) rfl rfl rfl rfl rfl rfl rfl rfl rfl, rfl, ?_⟩))
    (refine ⟨_, _, _, a_move (gd_none rfl) rfl rfl rfl rfl rfl, rfl, ?_⟩)
    (refine ⟨_, _, _, a_call (gd_none rfl) rfl rfl rfl rfl rfl (hasPart_abs w s n), rfl, ?_⟩)
    (refine ⟨_, _, _, a_not (gd_none rfl) rfl rfl rfl rfl rfl, rfl, ?_⟩)
    show AWp _ _ _ _ _ _ _
    refine awp_cond rfl (fun hc => ?_) (fun hc => awp_skip ?_)
    · have hno : s.pa n = none := by simpa using hc
      have e : atP p t = none := by
        rw [← List.take_append_drop k p, atP_append, hI, Option.bind_some, List.drop_eq_getElem_cons hkl, atP]
        have : p[k] = n := by rw [List.getElem?_eq_getElem hkl] at hn; exact Option.some.inj hn
        rw [this, hno]; rfl
      rw [e]
      refine awp_seq (awp_region ?_)
      (refine ⟨_, _, _, a_build (gd_none rfl) rfl rfl rfl rfl rfl rfl rfl rfl rfl rfl rfl, rfl, ?_⟩)
      (first | (refine ⟨_, _, _, a_store_all (gd_none rfl) rfl rfl rfl rfl rfl rfl rfl rfl rfl rfl, rfl, ?_⟩) | (refine ⟨_, _, _, a_store (gd_none rfl) rfl rfl rfl rfl rfl rfl rfl rfl rfl rfl, rfl, ?_⟩))
      (refine ⟨_, _, _, a_assign (gd_none rfl) rfl rfl rfl rfl rfl, rfl, ?_⟩)
      show AWp _ _ _ _ _ _ _
      exact awp_ret (And.intro (.inr rfl) rfl)
    obtain ⟨u, hu⟩ : ∃ u, s.pa n = some u := Option.isSome_iff_exists.1 (by simpa using hc)
    clear hc
    have hn0 : 0 ≤ n := by
      unfold Tm.pa at hu
      split at hu
      · assumption
      · cases hu
    have hl : s.l[n.toNat]? = some u := by
      have := pa_sym hu
      unfold Tm.pa at hu
      rw [if_pos hn0, Tm.ps_of_sym (by omega)] at hu
      exact hu
    have hl' := Tm.map_at hl
    have hsz := Tm.size_all s.l
    obtain ⟨m, hm⟩ : ∃ m : Nat, n = m := ⟨n.toNat, by omega⟩
    subst hm
    rw [Int.toNat_natCast] at hl hl'
    show AWp _ _ _ _ _ _ _
    refine awp_region ?_
    (first | (refine ⟨_, _, _, a_field_bp (gd_none rfl) rfl rfl rfl rfl rfl rfl rfl rfl rfl, rfl, ?_⟩) | (refine ⟨_, _, _, a_field_ad (gd_none rfl) rfl rfl rfl rfl rfl rfl rfl rfl rfl rfl rfl, rfl, ?_⟩))
    (first | (refine ⟨_, _, _, a_load_all (gd_none rfl) rfl rfl rfl rfl rfl rfl rfl rfl rfl rfl rfl rfl, rfl, ?_⟩) | (refine ⟨_, _, _, a_load_tok (gd_none rfl) rfl rfl rfl rfl rfl rfl rfl rfl rfl rfl rfl rfl rfl, rfl, ?_⟩) | (refine ⟨_, _, _, a_load_bp (gd_none rfl) rfl rfl rfl rfl rfl rfl rfl rfl rfl rfl rfl rfl, rfl, ?_⟩) | (refine ⟨_, _, _, a_load_ad (gd_none rfl) rfl rfl rfl rfl rfl rfl rfl rfl rfl, rfl, ?_⟩) | (refine ⟨_, _, _, a_load_ptr (gd_none rfl) rfl rfl rfl rfl rfl rfl rfl rfl rfl, rfl, ?_⟩))
    (refine ⟨_, _, _, a_move (gd_none rfl) rfl rfl rfl rfl rfl, rfl, ?_⟩)
    (refine ⟨_, _, _, a_index (gd_none rfl) rfl rfl rfl rfl rfl rfl rfl rfl rfl (by assumption) rfl (by first | assumption | exact szAll_spec rfl | exact Tm.size_all _ | exact Bd.size_all _ | exact ints_size _), rfl, ?_⟩)
    (first | (refine ⟨_, _, _, a_load_all (gd_none rfl) rfl rfl rfl rfl rfl rfl rfl rfl rfl rfl rfl rfl, rfl, ?_⟩) | (refine ⟨_, _, _, a_load_tok (gd_none rfl) rfl rfl rfl rfl rfl rfl rfl rfl rfl rfl rfl rfl rfl, rfl, ?_⟩) | (refine ⟨_, _, _, a_load_bp (gd_none rfl) rfl rfl rfl rfl rfl rfl rfl rfl rfl rfl rfl rfl, rfl, ?_⟩) | (refine ⟨_, _, _, a_load_ad (gd_none rfl) rfl rfl rfl rfl rfl rfl rfl rfl rfl, rfl, ?_⟩) | (refine ⟨_, _, _, a_load_ptr (gd_none rfl) rfl rfl rfl rfl rfl rfl rfl rfl rfl, rfl, ?_⟩))
    (first | (refine ⟨_, _, _, a_store_all (gd_none rfl) rfl rfl rfl rfl rfl rfl rfl rfl rfl rfl, rfl, ?_⟩) | (refine ⟨_, _, _, a_store (gd_none rfl) rfl rfl rfl rfl rfl rfl rfl rfl rfl rfl, rfl, ?_⟩))
    show AWp _ _ _ _ _ _ _
    refine awp_region ?_
    (refine ⟨_, _, _, a_add (gd_none rfl) rfl rfl rfl rfl rfl rfl (by first | omega | (simp only [List.length_map, List.length_append, List.length_cons, List.length_nil]; omega) | (simp; omega)), rfl, ?_⟩)
    (refine ⟨_, _, _, a_move (gd_none rfl) rfl rfl rfl rfl rfl, rfl, ?_⟩)
    have e : atP (p.take (k + 1)) t = some u := by
      rw [List.take_add_one, hn, atP_append, hI, Option.bind_some]
      show atP [(m : Int)] s = some u
      rw [atP, hu]; rfl
    refine ⟨hkl, (by show atP (p.take (k + 1)) t = some ((atP (p.take (k + 1)) t).getD ⟨0, []⟩); rw [e]; rfl), wk_sub ⟨rfl, ?_, rfl, rfl, rfl, rfl, rfl, trivial⟩⟩
    unfold stepP
    rw [e]
    rfl
  · have hkl : k = p.length := by
      simp only [List.length_map, decide_eq_false_iff_not] at hc
      omega
    subst hkl
    rw [List.take_length] at hI
    have hok := atP_ok hI hr
    rw [hI]
    show AWp _ _ _ _ _ _ _
    refine awp_seq (awp_region ?_)
    (first | (refine ⟨_, _, _, a_load_all (gd_none rfl) rfl rfl rfl rfl rfl rfl rfl rfl rfl rfl rfl rfl, rfl, ?_⟩) | (refine ⟨_, _, _, a_load_tok (gd_none rfl) rfl rfl rfl rfl rfl rfl rfl rfl rfl rfl rfl rfl rfl, rfl, ?_⟩) | (refine ⟨_, _, _, a_load_bp (gd_none rfl) rfl rfl rfl rfl rfl rfl rfl rfl rfl rfl rfl rfl, rfl, ?_⟩) | (refine ⟨_, _, _, a_load_ad (gd_none rfl) rfl rfl rfl rfl rfl rfl rfl rfl rfl, rfl, ?_⟩) | (refine ⟨_, _, _, a_load_ptr (gd_none rfl) rfl rfl rfl rfl rfl rfl rfl rfl rfl, rfl, ?_⟩))
    (refine ⟨_, _, _, a_call (gd_none rfl) rfl rfl rfl rfl rfl (clone_abs w hok.1 (by omega)), rfl, ?_⟩)
    (first | (refine ⟨_, _, _, a_store_all (gd_none rfl) rfl rfl rfl rfl rfl rfl rfl rfl rfl rfl, rfl, ?_⟩) | (refine ⟨_, _, _, a_store (gd_none rfl) rfl rfl rfl rfl rfl rfl rfl rfl rfl rfl, rfl, ?_⟩))
    (refine ⟨_, _, _, a_assign (gd_none rfl) rfl rfl rfl rfl rfl, rfl, ?_⟩)
    show AWp _ _ _ _ _ _ _
    exact awp_ret (And.intro (.inr rfl) rfl)
end Go.Proofs.Ytffecopfikbbbaa
