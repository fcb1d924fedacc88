/-
  To; the document's Flat and Vars over trees.
-/
import Derived.Test.YtmdhefepaolhcaaRfLess
namespace Go.Proofs.Ytmdhefepaolhcaa
open Go.RowKit
set_option linter.unusedVariables false
set_option linter.unusedSimpArgs false
set_option maxRecDepth 100000

-- 
set_option maxHeartbeats 1000000 in
theorem to_abs (W : World) : ∀ (t : Tm), t.ok → AFun Try.prog W 15 [t.cw] (.val t.strip.cw) := by
  intro t
  induction t using Tm.ind with
  | h f l ih =>
  intro hok
  obtain ⟨hl, hok⟩ := (Tm.ok_iff _).1 hok
  simp only at hl hok
  have hsz := Tm.size_all l
  refine afun_of (rs := [(Tm.strip ⟨f, l⟩).cw]) Try.func15 Try.ntmps15 rfl rfl rfl rfl ?_
  intro w U hW
  refine awp_seq (awp_region ?_)
  (refine ⟨_, _, _, a_box (gd_none rfl) rfl rfl rfl rfl rfl, rfl, ?_⟩)
  (refine ⟨_, _, _, a_alloc (gd_none rfl) rfl rfl rfl rfl rfl rfl rfl rfl rfl rfl, rfl, ?_⟩)
  show AWp _ _ _ _ _ _ _
  refine awp_seq (awp_region ?_)
  (first | (refine ⟨_, _, _, a_field_bp (gd_none rfl) rfl rfl rfl rfl rfl rfl rfl rfl rfl, rfl, ?_⟩) | (refine ⟨_, _, _, a_field_ad (gd_none rfl) rfl rfl rfl rfl rfl rfl rfl rfl rfl rfl rfl, rfl, ?_⟩) | (refine ⟨_, _, _, a_fieldM (gd_none rfl) rfl rfl rfl rfl rfl rfl rfl rfl rfl, rfl, ?_⟩))
  (first | (refine ⟨_, _, _, a_load_all (gd_none rfl) rfl rfl rfl rfl rfl rfl rfl rfl rfl rfl rfl rfl, rfl, ?_⟩) | (refine ⟨_, _, _, a_load_tok (gd_none rfl) rfl rfl rfl rfl rfl rfl rfl rfl rfl rfl rfl rfl rfl, rfl, ?_⟩) | (refine ⟨_, _, _, a_load_bp (gd_none rfl) rfl rfl rfl rfl rfl rfl rfl rfl rfl rfl rfl rfl, rfl, ?_⟩) | (refine ⟨_, _, _, a_load_ad (gd_none rfl) rfl rfl rfl rfl rfl rfl rfl rfl rfl, rfl, ?_⟩) | (refine ⟨_, _, _, a_load_ptr (gd_none rfl) rfl rfl rfl rfl rfl rfl rfl rfl rfl, rfl, ?_⟩))
  (refine ⟨_, _, _, a_build (gd_none rfl) rfl rfl rfl rfl rfl rfl rfl rfl rfl rfl rfl, rfl, ?_⟩)
  (refine ⟨_, _, _, a_alloc (gd_none rfl) rfl rfl rfl rfl rfl rfl rfl rfl rfl rfl, rfl, ?_⟩)
  (first | (refine ⟨_, _, _, a_store_all (gd_none rfl) rfl rfl rfl rfl rfl rfl rfl rfl rfl rfl, rfl, ?_⟩) | (refine ⟨_, _, _, a_store (gd_none rfl) rfl rfl rfl rfl rfl rfl rfl rfl rfl rfl, rfl, ?_⟩))
  show AWp _ _ _ _ _ _ _
  refine awp_seq (awp_seq (awp_region ?_))
  (refine ⟨_, _, _, a_assign (gd_none rfl) rfl rfl rfl rfl rfl, rfl, ?_⟩)
  show AWp _ _ _ _ _ _ _
  by_cases hf : f < 0
  · have hg : decide (f ≥ 0) = false := by simpa using hf
    rw [show (Tm.strip ⟨f, l⟩) = ⟨f, []⟩ by rw [Tm.strip_eq, Tm.ps_of_var (t := ⟨f, l⟩) hf]; rfl]
    refine awp_block (awp_count 0 (fun k => [(1, .bp 1 0 []), (100001, .bx (Tm.cw ⟨f, l⟩)), (2, .bp 2 0 []), (100002, ⟨5, .row [.i 0, .lst []], 1, 0, [1]⟩), (3, .bp 3 0 []), (100003, ⟨5, .row [.i f, .lst []], 1, 0, [1]⟩), (4, .val (.i k))]) (wk_sub ⟨rfl, rfl, rfl, rfl, rfl, rfl, rfl, trivial⟩) ?_)
    intro k hk
    refine awp_seq (awp_seq (awp_region ?_))
    (first | (refine ⟨_, _, _, a_field_bp (gd_none rfl) rfl rfl rfl rfl rfl rfl rfl rfl rfl, rfl, ?_⟩) | (refine ⟨_, _, _, a_field_ad (gd_none rfl) rfl rfl rfl rfl rfl rfl rfl rfl rfl rfl rfl, rfl, ?_⟩) | (refine ⟨_, _, _, a_fieldM (gd_none rfl) rfl rfl rfl rfl rfl rfl rfl rfl rfl, rfl, ?_⟩))
    (first | (refine ⟨_, _, _, a_load_all (gd_none rfl) rfl rfl rfl rfl rfl rfl rfl rfl rfl rfl rfl rfl, rfl, ?_⟩) | (refine ⟨_, _, _, a_load_tok (gd_none rfl) rfl rfl rfl rfl rfl rfl rfl rfl rfl rfl rfl rfl rfl, rfl, ?_⟩) | (refine ⟨_, _, _, a_load_bp (gd_none rfl) rfl rfl rfl rfl rfl rfl rfl rfl rfl rfl rfl rfl, rfl, ?_⟩) | (refine ⟨_, _, _, a_load_ad (gd_none rfl) rfl rfl rfl rfl rfl rfl rfl rfl rfl, rfl, ?_⟩) | (refine ⟨_, _, _, a_load_ptr (gd_none rfl) rfl rfl rfl rfl rfl rfl rfl rfl rfl, rfl, ?_⟩))
    (refine ⟨_, _, _, a_geq (gd_none rfl) rfl rfl rfl rfl rfl rfl, rfl, ?_⟩)
    (refine ⟨_, _, _, a_move (gd_none rfl) rfl rfl rfl rfl rfl, rfl, ?_⟩)
    (refine ⟨_, _, _, a_off (go_off rfl rfl rfl rfl (by first | rfl | assumption | (simp; done) | (simp [*]; done))) rfl rfl rfl, rfl, ?_⟩)
    (refine ⟨_, _, _, a_off (go_off rfl rfl rfl rfl (by first | rfl | assumption | (simp; done) | (simp [*]; done))) rfl rfl rfl, rfl, ?_⟩)
    (refine ⟨_, _, _, a_off (go_off rfl rfl rfl rfl (by first | rfl | assumption | (simp; done) | (simp [*]; done))) rfl rfl rfl, rfl, ?_⟩)
    (refine ⟨_, _, _, a_off (go_off rfl rfl rfl rfl (by first | rfl | assumption | (simp; done) | (simp [*]; done))) rfl rfl rfl, rfl, ?_⟩)
    (refine ⟨_, _, _, a_off (go_off rfl rfl rfl rfl (by first | rfl | assumption | (simp; done) | (simp [*]; done))) rfl rfl rfl, rfl, ?_⟩)
    (first | (refine ⟨_, _, _, a_pick_t (gd_none rfl) rfl rfl rfl rfl rfl ?hb rfl, rfl, ?_⟩; case hb => (first | rfl | assumption | (simp; done))) | (refine ⟨_, _, _, a_pick_f (gd_none rfl) rfl rfl rfl rfl rfl ?hb rfl, rfl, ?_⟩; case hb => (first | rfl | assumption | (simp; done))))
    show AWp _ _ _ _ _ _ _
    refine awp_cond rfl (fun hc => by cases hc) (fun hc => awp_exit ?_)
    show AWp _ _ _ _ _ _ _
    refine awp_seq (awp_region ?_)
    (first | (refine ⟨_, _, _, a_load_all (gd_none rfl) rfl rfl rfl rfl rfl rfl rfl rfl rfl rfl rfl rfl, rfl, ?_⟩) | (refine ⟨_, _, _, a_load_tok (gd_none rfl) rfl rfl rfl rfl rfl rfl rfl rfl rfl rfl rfl rfl rfl, rfl, ?_⟩) | (refine ⟨_, _, _, a_load_bp (gd_none rfl) rfl rfl rfl rfl rfl rfl rfl rfl rfl rfl rfl rfl, rfl, ?_⟩) | (refine ⟨_, _, _, a_load_ad (gd_none rfl) rfl rfl rfl rfl rfl rfl rfl rfl rfl, rfl, ?_⟩) | (refine ⟨_, _, _, a_load_ptr (gd_none rfl) rfl rfl rfl rfl rfl rfl rfl rfl rfl, rfl, ?_⟩))
    (first | (refine ⟨_, _, _, a_store_all (gd_none rfl) rfl rfl rfl rfl rfl rfl rfl rfl rfl rfl, rfl, ?_⟩) | (refine ⟨_, _, _, a_store (gd_none rfl) rfl rfl rfl rfl rfl rfl rfl rfl rfl rfl, rfl, ?_⟩))
    show AWp _ _ _ _ _ _ _
    exact awp_ret (And.intro (.inr rfl) rfl)
  have hg : decide (f ≥ 0) = true := by simp only [decide_eq_true_eq]; omega
  rw [show (Tm.strip ⟨f, l⟩) = ⟨f, l.map Tm.strip⟩ by rw [Tm.strip_eq, Tm.ps_of_sym (t := ⟨f, l⟩) (by show 0 ≤ f; omega)]]
  refine awp_block (awp_count l.length (fun k => [(1, .bp 1 0 []), (100001, .bx (Tm.cw ⟨f, l⟩)), (2, .bp 2 0 []), (100002, ⟨5, .row [.i 0, .lst []], 1, 0, [1]⟩), (3, .bp 3 0 []), (100003, ⟨5, .row [.i f, .lst (((l.take k).map Tm.strip).map Tm.cv)], 200029, 0, [1]⟩), (200029, .tok 25 2), (4, .val (.i k))])
    ((wk_nil 100003 200029 25 2 rfl rfl rfl rfl rfl rfl rfl).trans (wk_sub ⟨rfl, rfl, rfl, rfl, rfl, rfl, rfl, rfl, trivial⟩)) ?_)
  intro k hk
  refine awp_seq (awp_seq (awp_region ?_))
  (first | (refine ⟨_, _, _, a_field_bp (gd_none rfl) rfl rfl rfl rfl rfl rfl rfl rfl rfl, rfl, ?_⟩) | (refine ⟨_, _, _, a_field_ad (gd_none rfl) rfl rfl rfl rfl rfl rfl rfl rfl rfl rfl rfl, rfl, ?_⟩) | (refine ⟨_, _, _, a_fieldM (gd_none rfl) rfl rfl rfl rfl rfl rfl rfl rfl rfl, rfl, ?_⟩))
  (first | (refine ⟨_, _, _, a_load_all (gd_none rfl) rfl rfl rfl rfl rfl rfl rfl rfl rfl rfl rfl rfl, rfl, ?_⟩) | (refine ⟨_, _, _, a_load_tok (gd_none rfl) rfl rfl rfl rfl rfl rfl rfl rfl rfl rfl rfl rfl rfl, rfl, ?_⟩) | (refine ⟨_, _, _, a_load_bp (gd_none rfl) rfl rfl rfl rfl rfl rfl rfl rfl rfl rfl rfl rfl, rfl, ?_⟩) | (refine ⟨_, _, _, a_load_ad (gd_none rfl) rfl rfl rfl rfl rfl rfl rfl rfl rfl, rfl, ?_⟩) | (refine ⟨_, _, _, a_load_ptr (gd_none rfl) rfl rfl rfl rfl rfl rfl rfl rfl rfl, rfl, ?_⟩))
  (refine ⟨_, _, _, a_geq (gd_none rfl) rfl rfl rfl rfl rfl rfl, rfl, ?_⟩)
  (refine ⟨_, _, _, a_move (gd_none rfl) rfl rfl rfl rfl rfl, rfl, ?_⟩)
  (refine ⟨_, _, _, a_move (gd_on rfl rfl rfl rfl (by first | rfl | assumption | (simp; done))) rfl rfl rfl rfl rfl, rfl, ?_⟩)
  (first | (refine ⟨_, _, _, a_field_bp (gd_on rfl rfl rfl rfl (by first | rfl | assumption | (simp; done))) rfl rfl rfl rfl rfl rfl rfl rfl rfl, rfl, ?_⟩) | (refine ⟨_, _, _, a_field_ad (gd_on rfl rfl rfl rfl (by first | rfl | assumption | (simp; done))) rfl rfl rfl rfl rfl rfl rfl rfl rfl rfl rfl, rfl, ?_⟩) | (refine ⟨_, _, _, a_fieldM (gd_on rfl rfl rfl rfl (by first | rfl | assumption | (simp; done))) rfl rfl rfl rfl rfl rfl rfl rfl rfl, rfl, ?_⟩))
  (first | (refine ⟨_, _, _, a_load_all (gd_on rfl rfl rfl rfl (by first | rfl | assumption | (simp; done))) rfl rfl rfl rfl rfl rfl rfl rfl rfl rfl rfl rfl, rfl, ?_⟩) | (refine ⟨_, _, _, a_load_tok (gd_on rfl rfl rfl rfl (by first | rfl | assumption | (simp; done))) rfl rfl rfl rfl rfl rfl rfl rfl rfl rfl rfl rfl rfl, rfl, ?_⟩) | (refine ⟨_, _, _, a_load_bp (gd_on rfl rfl rfl rfl (by first | rfl | assumption | (simp; done))) rfl rfl rfl rfl rfl rfl rfl rfl rfl rfl rfl rfl, rfl, ?_⟩) | (refine ⟨_, _, _, a_load_ad (gd_on rfl rfl rfl rfl (by first | rfl | assumption | (simp; done))) rfl rfl rfl rfl rfl rfl rfl rfl rfl, rfl, ?_⟩) | (refine ⟨_, _, _, a_load_ptr (gd_on rfl rfl rfl rfl (by first | rfl | assumption | (simp; done))) rfl rfl rfl rfl rfl rfl rfl rfl rfl, rfl, ?_⟩))
  (first | (refine ⟨_, _, _, a_len (gd_on rfl rfl rfl rfl (by first | rfl | assumption | (simp; done))) rfl rfl rfl rfl rfl rfl rfl, rfl, ?_⟩) | (refine ⟨_, _, _, a_lenM (gd_on rfl rfl rfl rfl (by first | rfl | assumption | (simp; done))) rfl rfl rfl rfl rfl rfl rfl, rfl, ?_⟩))
  (refine ⟨_, _, _, a_lss (gd_on rfl rfl rfl rfl (by first | rfl | assumption | (simp; done))) rfl rfl rfl rfl rfl rfl, rfl, ?_⟩)
  (first | (refine ⟨_, _, _, a_pick_t (gd_none rfl) rfl rfl rfl rfl rfl ?hb rfl, rfl, ?_⟩; case hb => (first | rfl | assumption | (simp; done))) | (refine ⟨_, _, _, a_pick_f (gd_none rfl) rfl rfl rfl rfl rfl ?hb rfl, rfl, ?_⟩; case hb => (first | rfl | assumption | (simp; done))))
  show AWp _ _ _ _ _ _ _
  refine awp_cond rfl (fun hc => awp_skip ?_) (fun hc => awp_exit ?_)
  · have hkl : k < l.length := by
      simp only [List.length_map, decide_eq_true_eq] at hc
      omega
    clear hc
    obtain ⟨t, ht⟩ : ∃ t, l[k]? = some t := ⟨l[k], List.getElem?_eq_getElem hkl⟩
    have ht' := Tm.map_at ht
    have htm := List.mem_of_getElem? ht
    show AWp _ _ _ _ _ _ _
    refine awp_seq (awp_block (awp_draw (by kernel_rfl) (by kernel_rfl) ?_))
    (first | (refine ⟨_, _, _, a_field_bp (gd_none rfl) rfl rfl rfl rfl rfl rfl rfl rfl rfl, rfl, ?_⟩) | (refine ⟨_, _, _, a_field_ad (gd_none rfl) rfl rfl rfl rfl rfl rfl rfl rfl rfl rfl rfl, rfl, ?_⟩) | (refine ⟨_, _, _, a_fieldM (gd_none rfl) rfl rfl rfl rfl rfl rfl rfl rfl rfl, rfl, ?_⟩))
    (first | (refine ⟨_, _, _, a_load_all (gd_none rfl) rfl rfl rfl rfl rfl rfl rfl rfl rfl rfl rfl rfl, rfl, ?_⟩) | (refine ⟨_, _, _, a_load_tok (gd_none rfl) rfl rfl rfl rfl rfl rfl rfl rfl rfl rfl rfl rfl rfl, rfl, ?_⟩) | (refine ⟨_, _, _, a_load_bp (gd_none rfl) rfl rfl rfl rfl rfl rfl rfl rfl rfl rfl rfl rfl, rfl, ?_⟩) | (refine ⟨_, _, _, a_load_ad (gd_none rfl) rfl rfl rfl rfl rfl rfl rfl rfl rfl, rfl, ?_⟩) | (refine ⟨_, _, _, a_load_ptr (gd_none rfl) rfl rfl rfl rfl rfl rfl rfl rfl rfl, rfl, ?_⟩))
    (first | (refine ⟨_, _, _, a_field_bp (gd_none rfl) rfl rfl rfl rfl rfl rfl rfl rfl rfl, rfl, ?_⟩) | (refine ⟨_, _, _, a_field_ad (gd_none rfl) rfl rfl rfl rfl rfl rfl rfl rfl rfl rfl rfl, rfl, ?_⟩) | (refine ⟨_, _, _, a_fieldM (gd_none rfl) rfl rfl rfl rfl rfl rfl rfl rfl rfl, rfl, ?_⟩))
    (first | (refine ⟨_, _, _, a_load_all (gd_none rfl) rfl rfl rfl rfl rfl rfl rfl rfl rfl rfl rfl rfl, rfl, ?_⟩) | (refine ⟨_, _, _, a_load_tok (gd_none rfl) rfl rfl rfl rfl rfl rfl rfl rfl rfl rfl rfl rfl rfl, rfl, ?_⟩) | (refine ⟨_, _, _, a_load_bp (gd_none rfl) rfl rfl rfl rfl rfl rfl rfl rfl rfl rfl rfl rfl, rfl, ?_⟩) | (refine ⟨_, _, _, a_load_ad (gd_none rfl) rfl rfl rfl rfl rfl rfl rfl rfl rfl, rfl, ?_⟩) | (refine ⟨_, _, _, a_load_ptr (gd_none rfl) rfl rfl rfl rfl rfl rfl rfl rfl rfl, rfl, ?_⟩))
    (refine ⟨_, _, _, a_move (gd_none rfl) rfl rfl rfl rfl rfl, rfl, ?_⟩)
    (refine ⟨_, _, _, a_index (gd_none rfl) rfl rfl rfl rfl rfl rfl rfl rfl rfl (by assumption) rfl (by first | assumption | exact szAll_spec rfl | exact Tm.size_all _ | exact Bd.size_all _ | exact ints_size _), rfl, ?_⟩)
    (first | (refine ⟨_, _, _, a_load_all (gd_none rfl) rfl rfl rfl rfl rfl rfl rfl rfl rfl rfl rfl rfl, rfl, ?_⟩) | (refine ⟨_, _, _, a_load_tok (gd_none rfl) rfl rfl rfl rfl rfl rfl rfl rfl rfl rfl rfl rfl rfl, rfl, ?_⟩) | (refine ⟨_, _, _, a_load_bp (gd_none rfl) rfl rfl rfl rfl rfl rfl rfl rfl rfl rfl rfl rfl, rfl, ?_⟩) | (refine ⟨_, _, _, a_load_ad (gd_none rfl) rfl rfl rfl rfl rfl rfl rfl rfl rfl, rfl, ?_⟩) | (refine ⟨_, _, _, a_load_ptr (gd_none rfl) rfl rfl rfl rfl rfl rfl rfl rfl rfl, rfl, ?_⟩))
    (refine ⟨_, _, _, a_call (gd_none rfl) rfl rfl rfl rfl rfl ((ih t htm (hok t htm)).up hW), rfl, ?_⟩)
    (refine ⟨_, _, _, a_bslice (gd_none rfl) rfl rfl rfl rfl rfl rfl rfl rfl rfl rfl rfl rfl rfl, rfl, ?_⟩)
    (first | (refine ⟨_, _, _, a_app (gd_none rfl) rfl rfl rfl rfl rfl rfl rfl rfl rfl rfl rfl rfl rfl rfl rfl (by first | assumption | exact szAll_spec rfl | exact Tm.size_all _ | exact Bd.size_all _ | exact ints_size _) (by first | assumption | exact szAll_spec rfl | exact Tm.size_all _ | exact Bd.size_all _ | exact ints_size _) (by first | omega | (simp only [List.length_map, List.length_append, List.length_cons, List.length_nil]; omega) | (simp; omega)), rfl, ?_⟩) | (refine ⟨_, _, _, a_app_nil (gd_none rfl) rfl rfl rfl rfl rfl rfl rfl rfl rfl rfl rfl (by first | assumption | exact szAll_spec rfl | exact Tm.size_all _ | exact Bd.size_all _ | exact ints_size _) (by first | assumption | exact szAll_spec rfl | exact Tm.size_all _ | exact Bd.size_all _ | exact ints_size _) (by first | omega | (simp only [List.length_map, List.length_append, List.length_cons, List.length_nil]; omega) | (simp; omega)), rfl, ?_⟩))
    (first | (refine ⟨_, _, _, a_field_bp (gd_none rfl) rfl rfl rfl rfl rfl rfl rfl rfl rfl, rfl, ?_⟩) | (refine ⟨_, _, _, a_field_ad (gd_none rfl) rfl rfl rfl rfl rfl rfl rfl rfl rfl rfl rfl, rfl, ?_⟩) | (refine ⟨_, _, _, a_fieldM (gd_none rfl) rfl rfl rfl rfl rfl rfl rfl rfl rfl, rfl, ?_⟩))
    (first | (refine ⟨_, _, _, a_store_all (gd_none rfl) rfl rfl rfl rfl rfl rfl rfl rfl rfl rfl, rfl, ?_⟩) | (refine ⟨_, _, _, a_store (gd_none rfl) rfl rfl rfl rfl rfl rfl rfl rfl rfl rfl, rfl, ?_⟩))
    refine ⟨by kernel_rfl, ?_⟩
    show AWp _ _ _ _ _ _ _
    refine awp_region ?_
    (refine ⟨_, _, _, a_move (gd_none rfl) rfl rfl rfl rfl rfl, rfl, ?_⟩)
    (refine ⟨_, _, _, a_add (gd_none rfl) rfl rfl rfl rfl rfl rfl (by first | omega | (simp only [List.length_map, List.length_append, List.length_cons, List.length_nil]; omega) | (simp; omega)), rfl, ?_⟩)
    (refine ⟨_, _, _, a_assign (gd_none rfl) rfl rfl rfl rfl rfl, rfl, ?_⟩)
    refine ⟨hkl, Wk.trans (wk_sub (s' := [(1, .bp 1 0 []), (100001, .bx (Tm.cw ⟨f, l⟩)), (2, .bp 2 0 []), (100002, ⟨5, .row [.i 0, .lst []], 1, 0, [1]⟩), (3, .bp 3 0 []), (100003, ⟨5, .row [.i f, .lst (((l.take (k + 1)).map Tm.strip).map Tm.cv)], 300029, 0, [1]⟩), (300029, .tok 25 2), (4, .val (.i ((k + 1 : Nat) : Int)))]) ⟨rfl, rfl, rfl, rfl, rfl, ?_, rfl, rfl, trivial⟩) (wk_ren 300029 200029 rfl rfl rfl rfl)⟩
    rw [List.take_add_one, ht, List.map_append, List.map_append]
    simp only [Option.toList_some, List.map_cons, List.map_nil, Tm.cv_eq]
    rfl
  · have hkl : k = l.length := by
      simp only [List.length_map, decide_eq_false_iff_not] at hc
      omega
    subst hkl
    rw [List.take_length]
    show AWp _ _ _ _ _ _ _
    refine awp_seq (awp_region ?_)
    (first | (refine ⟨_, _, _, a_load_all (gd_none rfl) rfl rfl rfl rfl rfl rfl rfl rfl rfl rfl rfl rfl, rfl, ?_⟩) | (refine ⟨_, _, _, a_load_tok (gd_none rfl) rfl rfl rfl rfl rfl rfl rfl rfl rfl rfl rfl rfl rfl, rfl, ?_⟩) | (refine ⟨_, _, _, a_load_bp (gd_none rfl) rfl rfl rfl rfl rfl rfl rfl rfl rfl rfl rfl rfl, rfl, ?_⟩) | (refine ⟨_, _, _, a_load_ad (gd_none rfl) rfl rfl rfl rfl rfl rfl rfl rfl rfl, rfl, ?_⟩) | (refine ⟨_, _, _, a_load_ptr (gd_none rfl) rfl rfl rfl rfl rfl rfl rfl rfl rfl, rfl, ?_⟩))
    (first | (refine ⟨_, _, _, a_store_all (gd_none rfl) rfl rfl rfl rfl rfl rfl rfl rfl rfl rfl, rfl, ?_⟩) | (refine ⟨_, _, _, a_store (gd_none rfl) rfl rfl rfl rfl rfl rfl rfl rfl rfl rfl, rfl, ?_⟩))
    show AWp _ _ _ _ _ _ _
    exact awp_ret (And.intro (.inr rfl) rfl)

theorem flat_len_take (l : List Tm) (k : Nat) : ((l.take k).flatMap Tm.flat).length ≤ (l.flatMap Tm.flat).length := by
  conv => rhs; rw [← List.take_append_drop k l, List.flatMap_append, List.length_append]
  omega
-- 
set_option maxHeartbeats 1000000 in
theorem refFlat_abs (W : World) : ∀ (t : Tm), t.ok → t.size ≤ 1000000000 → AFun Try.prog W 42 [t.cw] (.val (.lst (t.flat.map Tm.cv))) := by
  intro t
  induction t using Tm.ind with
  | h f l ih =>
  intro hok hts
  obtain ⟨hl, hok⟩ := (Tm.ok_iff _).1 hok
  simp only at hl hok
  have hsz := Tm.size_all l
  refine afun_of (rs := [.lst ((Tm.flat ⟨f, l⟩).map Tm.cv)]) Try.func42 Try.ntmps42 rfl rfl rfl rfl ?_
  intro w U hW
  refine awp_seq (awp_region ?_)
  (refine ⟨_, _, _, a_box (gd_none rfl) rfl rfl rfl rfl rfl, rfl, ?_⟩)
  (refine ⟨_, _, _, a_assign (gd_none rfl) rfl rfl rfl rfl rfl, rfl, ?_⟩)
  show AWp _ _ _ _ _ _ _
  refine awp_seq (awp_region ?_)
  (first | (refine ⟨_, _, _, a_load_all (gd_none rfl) rfl rfl rfl rfl rfl rfl rfl rfl rfl rfl rfl rfl, rfl, ?_⟩) | (refine ⟨_, _, _, a_load_tok (gd_none rfl) rfl rfl rfl rfl rfl rfl rfl rfl rfl rfl rfl rfl rfl, rfl, ?_⟩) | (refine ⟨_, _, _, a_load_bp (gd_none rfl) rfl rfl rfl rfl rfl rfl rfl rfl rfl rfl rfl rfl, rfl, ?_⟩) | (refine ⟨_, _, _, a_load_ad (gd_none rfl) rfl rfl rfl rfl rfl rfl rfl rfl rfl, rfl, ?_⟩) | (refine ⟨_, _, _, a_load_ptr (gd_none rfl) rfl rfl rfl rfl rfl rfl rfl rfl rfl, rfl, ?_⟩))
  (refine ⟨_, _, _, a_bsliceT (gd_none rfl) rfl rfl rfl rfl rfl rfl rfl rfl rfl rfl rfl rfl rfl rfl, rfl, ?_⟩)
  (refine ⟨_, _, _, a_assign (gd_none rfl) rfl rfl rfl rfl rfl, rfl, ?_⟩)
  show AWp _ _ _ _ _ _ _
  refine awp_seq (awp_seq (awp_region ?_))
  (refine ⟨_, _, _, a_assign (gd_none rfl) rfl rfl rfl rfl rfl, rfl, ?_⟩)
  show AWp _ _ _ _ _ _ _
  have e0 : look [(3, AV.own (.lst [Tm.cw ⟨f, l⟩]) 300006)] 3 = some (.own (.lst ([Tm.mk f l].map Tm.cv)) 300006) := by
    simp only [List.map_cons, List.map_nil, Tm.cv_eq]
    rfl
  by_cases hf : f < 0
  · have hg : decide (f ≥ 0) = false := by simpa using hf
    rw [show Tm.flat ⟨f, l⟩ = [⟨f, l⟩] by rw [Tm.flat_eq, Tm.ps_of_var (t := ⟨f, l⟩) hf]; rfl]
    refine awp_block (awp_count 0 (fun k => [(1, .bp 1 0 []), (100001, .bx (Tm.cw ⟨f, l⟩)), (3, .val (.lst ([Tm.mk f l].map Tm.cv))), (4, .val (.i k))]) (Wk.trans (wk_sub (s' := [(1, .bp 1 0 []), (100001, .bx (Tm.cw ⟨f, l⟩)), (3, .own (.lst ([Tm.mk f l].map Tm.cv)) 300006), (4, .val (.i (0 : Nat)))]) ⟨rfl, rfl, e0, rfl, trivial⟩) (wk_plain 3 rfl)) ?_)
    intro k hk
    refine awp_seq (awp_seq (awp_region ?_))
    (first | (refine ⟨_, _, _, a_field_bp (gd_none rfl) rfl rfl rfl rfl rfl rfl rfl rfl rfl, rfl, ?_⟩) | (refine ⟨_, _, _, a_field_ad (gd_none rfl) rfl rfl rfl rfl rfl rfl rfl rfl rfl rfl rfl, rfl, ?_⟩) | (refine ⟨_, _, _, a_fieldM (gd_none rfl) rfl rfl rfl rfl rfl rfl rfl rfl rfl, rfl, ?_⟩))
    (first | (refine ⟨_, _, _, a_load_all (gd_none rfl) rfl rfl rfl rfl rfl rfl rfl rfl rfl rfl rfl rfl, rfl, ?_⟩) | (refine ⟨_, _, _, a_load_tok (gd_none rfl) rfl rfl rfl rfl rfl rfl rfl rfl rfl rfl rfl rfl rfl, rfl, ?_⟩) | (refine ⟨_, _, _, a_load_bp (gd_none rfl) rfl rfl rfl rfl rfl rfl rfl rfl rfl rfl rfl rfl, rfl, ?_⟩) | (refine ⟨_, _, _, a_load_ad (gd_none rfl) rfl rfl rfl rfl rfl rfl rfl rfl rfl, rfl, ?_⟩) | (refine ⟨_, _, _, a_load_ptr (gd_none rfl) rfl rfl rfl rfl rfl rfl rfl rfl rfl, rfl, ?_⟩))
    (refine ⟨_, _, _, a_geq (gd_none rfl) rfl rfl rfl rfl rfl rfl, rfl, ?_⟩)
    (refine ⟨_, _, _, a_move (gd_none rfl) rfl rfl rfl rfl rfl, rfl, ?_⟩)
    (refine ⟨_, _, _, a_off (go_off rfl rfl rfl rfl (by first | rfl | assumption | (simp; done) | (simp [*]; done))) rfl rfl rfl, rfl, ?_⟩)
    (refine ⟨_, _, _, a_off (go_off rfl rfl rfl rfl (by first | rfl | assumption | (simp; done) | (simp [*]; done))) rfl rfl rfl, rfl, ?_⟩)
    (refine ⟨_, _, _, a_off (go_off rfl rfl rfl rfl (by first | rfl | assumption | (simp; done) | (simp [*]; done))) rfl rfl rfl, rfl, ?_⟩)
    (refine ⟨_, _, _, a_off (go_off rfl rfl rfl rfl (by first | rfl | assumption | (simp; done) | (simp [*]; done))) rfl rfl rfl, rfl, ?_⟩)
    (refine ⟨_, _, _, a_off (go_off rfl rfl rfl rfl (by first | rfl | assumption | (simp; done) | (simp [*]; done))) rfl rfl rfl, rfl, ?_⟩)
    (first | (refine ⟨_, _, _, a_pick_t (gd_none rfl) rfl rfl rfl rfl rfl ?hb rfl, rfl, ?_⟩; case hb => (first | rfl | assumption | (simp; done))) | (refine ⟨_, _, _, a_pick_f (gd_none rfl) rfl rfl rfl rfl rfl ?hb rfl, rfl, ?_⟩; case hb => (first | rfl | assumption | (simp; done))))
    show AWp _ _ _ _ _ _ _
    refine awp_cond rfl (fun hc => by cases hc) (fun hc => awp_exit ?_)
    show AWp _ _ _ _ _ _ _
    refine awp_seq (awp_region ?_)
    (refine ⟨_, _, _, a_move (gd_none rfl) rfl rfl rfl rfl rfl, rfl, ?_⟩)
    (refine ⟨_, _, _, a_assign (gd_none rfl) rfl rfl rfl rfl rfl, rfl, ?_⟩)
    show AWp _ _ _ _ _ _ _
    exact awp_ret (And.intro (.inr rfl) rfl)
  have hg : decide (f ≥ 0) = true := by simp only [decide_eq_true_eq]; omega
  have hfl : Tm.flat ⟨f, l⟩ = ⟨f, l⟩ :: l.flatMap Tm.flat := by rw [Tm.flat_eq, Tm.ps_of_sym (t := ⟨f, l⟩) (by show 0 ≤ f; omega)]
  unfold Tm.size at hts
  rw [hfl] at hts ⊢
  rw [List.length_cons] at hts
  refine awp_block (awp_count l.length (fun k => [(1, .bp 1 0 []), (100001, .bx (Tm.cw ⟨f, l⟩)), (3, .own (.lst ((Tm.mk f l :: (l.take k).flatMap Tm.flat).map Tm.cv)) 200026), (200026, .tok 25 2), (4, .val (.i k))])
    (Wk.trans (wk_sub (s' := [(1, .bp 1 0 []), (100001, .bx (Tm.cw ⟨f, l⟩)), (3, .own (.lst ([Tm.mk f l].map Tm.cv)) 300006), (300006, .tok 25 2), (4, .val (.i (0 : Nat)))]) ⟨rfl, rfl, e0, rfl, rfl, trivial⟩) (wk_ren 300006 200026 rfl rfl rfl rfl)) ?_)
  intro k hk
  refine awp_seq (awp_seq (awp_region ?_))
  (first | (refine ⟨_, _, _, a_field_bp (gd_none rfl) rfl rfl rfl rfl rfl rfl rfl rfl rfl, rfl, ?_⟩) | (refine ⟨_, _, _, a_field_ad (gd_none rfl) rfl rfl rfl rfl rfl rfl rfl rfl rfl rfl rfl, rfl, ?_⟩) | (refine ⟨_, _, _, a_fieldM (gd_none rfl) rfl rfl rfl rfl rfl rfl rfl rfl rfl, rfl, ?_⟩))
  (first | (refine ⟨_, _, _, a_load_all (gd_none rfl) rfl rfl rfl rfl rfl rfl rfl rfl rfl rfl rfl rfl, rfl, ?_⟩) | (refine ⟨_, _, _, a_load_tok (gd_none rfl) rfl rfl rfl rfl rfl rfl rfl rfl rfl rfl rfl rfl rfl, rfl, ?_⟩) | (refine ⟨_, _, _, a_load_bp (gd_none rfl) rfl rfl rfl rfl rfl rfl rfl rfl rfl rfl rfl rfl, rfl, ?_⟩) | (refine ⟨_, _, _, a_load_ad (gd_none rfl) rfl rfl rfl rfl rfl rfl rfl rfl rfl, rfl, ?_⟩) | (refine ⟨_, _, _, a_load_ptr (gd_none rfl) rfl rfl rfl rfl rfl rfl rfl rfl rfl, rfl, ?_⟩))
  (refine ⟨_, _, _, a_geq (gd_none rfl) rfl rfl rfl rfl rfl rfl, rfl, ?_⟩)
  (refine ⟨_, _, _, a_move (gd_none rfl) rfl rfl rfl rfl rfl, rfl, ?_⟩)
  (refine ⟨_, _, _, a_move (gd_on rfl rfl rfl rfl (by first | rfl | assumption | (simp; done))) rfl rfl rfl rfl rfl, rfl, ?_⟩)
  (first | (refine ⟨_, _, _, a_field_bp (gd_on rfl rfl rfl rfl (by first | rfl | assumption | (simp; done))) rfl rfl rfl rfl rfl rfl rfl rfl rfl, rfl, ?_⟩) | (refine ⟨_, _, _, a_field_ad (gd_on rfl rfl rfl rfl (by first | rfl | assumption | (simp; done))) rfl rfl rfl rfl rfl rfl rfl rfl rfl rfl rfl, rfl, ?_⟩) | (refine ⟨_, _, _, a_fieldM (gd_on rfl rfl rfl rfl (by first | rfl | assumption | (simp; done))) rfl rfl rfl rfl rfl rfl rfl rfl rfl, rfl, ?_⟩))
  (first | (refine ⟨_, _, _, a_load_all (gd_on rfl rfl rfl rfl (by first | rfl | assumption | (simp; done))) rfl rfl rfl rfl rfl rfl rfl rfl rfl rfl rfl rfl, rfl, ?_⟩) | (refine ⟨_, _, _, a_load_tok (gd_on rfl rfl rfl rfl (by first | rfl | assumption | (simp; done))) rfl rfl rfl rfl rfl rfl rfl rfl rfl rfl rfl rfl rfl, rfl, ?_⟩) | (refine ⟨_, _, _, a_load_bp (gd_on rfl rfl rfl rfl (by first | rfl | assumption | (simp; done))) rfl rfl rfl rfl rfl rfl rfl rfl rfl rfl rfl rfl, rfl, ?_⟩) | (refine ⟨_, _, _, a_load_ad (gd_on rfl rfl rfl rfl (by first | rfl | assumption | (simp; done))) rfl rfl rfl rfl rfl rfl rfl rfl rfl, rfl, ?_⟩) | (refine ⟨_, _, _, a_load_ptr (gd_on rfl rfl rfl rfl (by first | rfl | assumption | (simp; done))) rfl rfl rfl rfl rfl rfl rfl rfl rfl, rfl, ?_⟩))
  (first | (refine ⟨_, _, _, a_len (gd_on rfl rfl rfl rfl (by first | rfl | assumption | (simp; done))) rfl rfl rfl rfl rfl rfl rfl, rfl, ?_⟩) | (refine ⟨_, _, _, a_lenM (gd_on rfl rfl rfl rfl (by first | rfl | assumption | (simp; done))) rfl rfl rfl rfl rfl rfl rfl, rfl, ?_⟩))
  (refine ⟨_, _, _, a_lss (gd_on rfl rfl rfl rfl (by first | rfl | assumption | (simp; done))) rfl rfl rfl rfl rfl rfl, rfl, ?_⟩)
  (first | (refine ⟨_, _, _, a_pick_t (gd_none rfl) rfl rfl rfl rfl rfl ?hb rfl, rfl, ?_⟩; case hb => (first | rfl | assumption | (simp; done))) | (refine ⟨_, _, _, a_pick_f (gd_none rfl) rfl rfl rfl rfl rfl ?hb rfl, rfl, ?_⟩; case hb => (first | rfl | assumption | (simp; done))))
  show AWp _ _ _ _ _ _ _
  refine awp_cond rfl (fun hc => awp_skip ?_) (fun hc => awp_exit ?_)
  · have hkl : k < l.length := by
      simp only [List.length_map, decide_eq_true_eq] at hc
      omega
    clear hc
    obtain ⟨t, ht⟩ : ∃ t, l[k]? = some t := ⟨l[k], List.getElem?_eq_getElem hkl⟩
    have ht' := Tm.map_at ht
    have htm := List.mem_of_getElem? ht
    have hb1 := flat_len_take l k
    have hb2 := flatMap_len_mem Tm.flat htm
    show AWp _ _ _ _ _ _ _
    refine awp_seq (awp_block (awp_region ?_))
    (refine ⟨_, _, _, a_move (gd_none rfl) rfl rfl rfl rfl rfl, rfl, ?_⟩)
    (first | (refine ⟨_, _, _, a_field_bp (gd_none rfl) rfl rfl rfl rfl rfl rfl rfl rfl rfl, rfl, ?_⟩) | (refine ⟨_, _, _, a_field_ad (gd_none rfl) rfl rfl rfl rfl rfl rfl rfl rfl rfl rfl rfl, rfl, ?_⟩) | (refine ⟨_, _, _, a_fieldM (gd_none rfl) rfl rfl rfl rfl rfl rfl rfl rfl rfl, rfl, ?_⟩))
    (first | (refine ⟨_, _, _, a_load_all (gd_none rfl) rfl rfl rfl rfl rfl rfl rfl rfl rfl rfl rfl rfl, rfl, ?_⟩) | (refine ⟨_, _, _, a_load_tok (gd_none rfl) rfl rfl rfl rfl rfl rfl rfl rfl rfl rfl rfl rfl rfl, rfl, ?_⟩) | (refine ⟨_, _, _, a_load_bp (gd_none rfl) rfl rfl rfl rfl rfl rfl rfl rfl rfl rfl rfl rfl, rfl, ?_⟩) | (refine ⟨_, _, _, a_load_ad (gd_none rfl) rfl rfl rfl rfl rfl rfl rfl rfl rfl, rfl, ?_⟩) | (refine ⟨_, _, _, a_load_ptr (gd_none rfl) rfl rfl rfl rfl rfl rfl rfl rfl rfl, rfl, ?_⟩))
    (refine ⟨_, _, _, a_move (gd_none rfl) rfl rfl rfl rfl rfl, rfl, ?_⟩)
    (refine ⟨_, _, _, a_index (gd_none rfl) rfl rfl rfl rfl rfl rfl rfl rfl rfl (by assumption) rfl (by first | assumption | exact szAll_spec rfl | exact Tm.size_all _ | exact Bd.size_all _ | exact ints_size _), rfl, ?_⟩)
    (first | (refine ⟨_, _, _, a_load_all (gd_none rfl) rfl rfl rfl rfl rfl rfl rfl rfl rfl rfl rfl rfl, rfl, ?_⟩) | (refine ⟨_, _, _, a_load_tok (gd_none rfl) rfl rfl rfl rfl rfl rfl rfl rfl rfl rfl rfl rfl rfl, rfl, ?_⟩) | (refine ⟨_, _, _, a_load_bp (gd_none rfl) rfl rfl rfl rfl rfl rfl rfl rfl rfl rfl rfl rfl, rfl, ?_⟩) | (refine ⟨_, _, _, a_load_ad (gd_none rfl) rfl rfl rfl rfl rfl rfl rfl rfl rfl, rfl, ?_⟩) | (refine ⟨_, _, _, a_load_ptr (gd_none rfl) rfl rfl rfl rfl rfl rfl rfl rfl rfl, rfl, ?_⟩))
    (refine ⟨_, _, _, a_call (gd_none rfl) rfl rfl rfl rfl rfl ((ih t htm (hok t htm) (by unfold Tm.size; omega)).up hW), rfl, ?_⟩)
    (first | (refine ⟨_, _, _, a_app (gd_none rfl) rfl rfl rfl rfl rfl rfl rfl rfl rfl rfl rfl rfl rfl rfl rfl (by first | assumption | exact szAll_spec rfl | exact Tm.size_all _ | exact Bd.size_all _ | exact ints_size _) (by first | assumption | exact szAll_spec rfl | exact Tm.size_all _ | exact Bd.size_all _ | exact ints_size _) (by first | omega | (simp only [List.length_map, List.length_append, List.length_cons, List.length_nil]; omega) | (simp; omega)), rfl, ?_⟩) | (refine ⟨_, _, _, a_app_nil (gd_none rfl) rfl rfl rfl rfl rfl rfl rfl rfl rfl rfl rfl (by first | assumption | exact szAll_spec rfl | exact Tm.size_all _ | exact Bd.size_all _ | exact ints_size _) (by first | assumption | exact szAll_spec rfl | exact Tm.size_all _ | exact Bd.size_all _ | exact ints_size _) (by first | omega | (simp only [List.length_map, List.length_append, List.length_cons, List.length_nil]; omega) | (simp; omega)), rfl, ?_⟩))
    (refine ⟨_, _, _, a_assign (gd_none rfl) rfl rfl rfl rfl rfl, rfl, ?_⟩)
    show AWp _ _ _ _ _ _ _
    refine awp_region ?_
    (refine ⟨_, _, _, a_move (gd_none rfl) rfl rfl rfl rfl rfl, rfl, ?_⟩)
    (refine ⟨_, _, _, a_add (gd_none rfl) rfl rfl rfl rfl rfl rfl (by first | omega | (simp only [List.length_map, List.length_append, List.length_cons, List.length_nil]; omega) | (simp; omega)), rfl, ?_⟩)
    (refine ⟨_, _, _, a_assign (gd_none rfl) rfl rfl rfl rfl rfl, rfl, ?_⟩)
    refine ⟨hkl, Wk.trans (wk_sub (s' := [(1, .bp 1 0 []), (100001, .bx (Tm.cw ⟨f, l⟩)), (3, .own (.lst ((Tm.mk f l :: (l.take (k + 1)).flatMap Tm.flat).map Tm.cv)) 300026), (300026, .tok 25 2), (4, .val (.i ((k + 1 : Nat) : Int)))]) ⟨rfl, rfl, ?_, rfl, rfl, trivial⟩) (wk_ren 300026 200026 rfl rfl rfl rfl)⟩
    rw [List.take_add_one, ht, List.flatMap_append, ← List.cons_append, List.map_append]
    simp only [Option.toList_some, List.flatMap_cons, List.flatMap_nil, List.append_nil]
    rfl
  · have hkl : k = l.length := by
      simp only [List.length_map, decide_eq_false_iff_not] at hc
      omega
    subst hkl
    rw [List.take_length]
    show AWp _ _ _ _ _ _ _
    refine awp_seq (awp_region ?_)
    (refine ⟨_, _, _, a_move (gd_none rfl) rfl rfl rfl rfl rfl, rfl, ?_⟩)
    (refine ⟨_, _, _, a_assign (gd_none rfl) rfl rfl rfl rfl rfl, rfl, ?_⟩)
    show AWp _ _ _ _ _ _ _
    exact awp_ret (And.intro (.inr rfl) rfl)
end Go.Proofs.Ytmdhefepaolhcaa
