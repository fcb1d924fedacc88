/-
  The law UnifyGround.
-/
import Derived.Test.YtiammidklcjelabMg8
import Derived.Test.YtiammidklcjelabAbShp
namespace Go.Proofs.Ytiammidklcjelab
open Go.RowKit
set_option linter.unusedVariables false
set_option linter.unusedSimpArgs false
set_option maxRecDepth 100000

-- 
set_option maxHeartbeats 4000000 in
theorem unifyGround_abs (W : World) (a b : Tm) (ha : a.rng) (hb : b.rng) : AFun Try.prog W 6 [a.cw, b.cw] (.val (.b true)) := by
  refine afun_of (rs := [.b true]) Try.func6 Try.ntmps6 rfl rfl rfl rfl ?_
  intro w U hW
  refine awp_seq (awp_region ?_)
  (refine nx (a_box (gd_none rfl) rfl rfl rfl rfl rfl) rfl ?_)
  (refine nx (a_box (gd_none rfl) rfl rfl rfl rfl rfl) rfl ?_)
  (refine nx (a_assign (gd_none rfl) rfl rfl rfl rfl rfl) rfl ?_)
  show AWp _ _ _ _ _ _ _
  refine awp_seq (awp_seq (awp_region ?_))
  (refine nx (a_call (gd_none rfl) rfl rfl rfl rfl rfl (alive8_abs w)) rfl ?_)
  (refine nx (a_not (gd_none rfl) rfl rfl rfl rfl rfl) rfl ?_)
  show AWp _ _ _ _ _ _ _
  refine awp_cond rfl (fun hc => by cases hc) (fun _ => awp_skip ?_)
  show AWp _ _ _ _ _ _ _
  have ht := tiny2_abs w ha hb
  cases hT : tinyB [a, b] with
  | false =>
    rw [hT] at ht
    refine awp_seq (awp_seq (awp_region ?_))
    (refine nx (a_load_all (gd_none rfl) rfl rfl rfl rfl rfl rfl rfl rfl rfl rfl rfl rfl) rfl ?_)
    (refine nx (a_load_all (gd_none rfl) rfl rfl rfl rfl rfl rfl rfl rfl rfl rfl rfl rfl) rfl ?_)
    (refine nx (a_bslice (gd_none rfl) rfl rfl rfl rfl rfl rfl rfl rfl rfl rfl rfl rfl rfl) rfl ?_)
    (refine nx (a_call (gd_none rfl) rfl rfl rfl rfl rfl (ht)) rfl ?_)
    (refine nx (a_not (gd_none rfl) rfl rfl rfl rfl rfl) rfl ?_)
    show AWp _ _ _ _ _ _ _
    refine awp_cond rfl (fun hc => ?_) (fun hc => by cases hc)
    refine awp_seq (awp_region ?_)
    (refine nx (a_assign (gd_none rfl) rfl rfl rfl rfl rfl) rfl ?_)
    show AWp _ _ _ _ _ _ _
    exact awp_ret (And.intro (.inr rfl) rfl)
  | true =>
  rw [hT] at ht
  refine awp_seq (awp_seq (awp_region ?_))
  (refine nx (a_load_all (gd_none rfl) rfl rfl rfl rfl rfl rfl rfl rfl rfl rfl rfl rfl) rfl ?_)
  (refine nx (a_load_all (gd_none rfl) rfl rfl rfl rfl rfl rfl rfl rfl rfl rfl rfl rfl) rfl ?_)
  (refine nx (a_bslice (gd_none rfl) rfl rfl rfl rfl rfl rfl rfl rfl rfl rfl rfl rfl rfl) rfl ?_)
  (refine nx (a_call (gd_none rfl) rfl rfl rfl rfl rfl (ht)) rfl ?_)
  (refine nx (a_not (gd_none rfl) rfl rfl rfl rfl rfl) rfl ?_)
  show AWp _ _ _ _ _ _ _
  refine awp_cond rfl (fun hc => by cases hc) (fun _ => awp_skip ?_)
  show AWp _ _ _ _ _ _ _
  obtain ⟨sa, sb⟩ := tinyB_two hT
  obtain ⟨_, ⟨_, hao⟩, has⟩ := tiny_facts sa
  obtain ⟨_, ⟨_, hbo⟩, hbs⟩ := tiny_facts sb
  obtain ⟨n, r0, _, _, _, htold⟩ := told_of (l := [(a, b)]) (by simp) (tiny2_of sa sb)
  obtain ⟨r, hr⟩ : ∃ r : List Bd × Bool, r = ((r0.map normF).getD [], r0.isSome) := ⟨_, rfl⟩
  rw [← hr] at htold
  clear hr ht hT
  have hu := uUnify_abs w a b ha hao hb hbo (by omega) r htold.told
  refine awp_seq (awp_draw (by kernel_rfl) (by kernel_rfl) ?_)
  (refine nx (a_load_all (gd_none rfl) rfl rfl rfl rfl rfl rfl rfl rfl rfl rfl rfl rfl) rfl ?_)
  (refine nx (a_call (gd_none rfl) rfl rfl rfl rfl rfl (of_abs w a hao)) rfl ?_)
  (refine nx (a_load_all (gd_none rfl) rfl rfl rfl rfl rfl rfl rfl rfl rfl rfl rfl rfl) rfl ?_)
  (refine nx (a_call (gd_none rfl) rfl rfl rfl rfl rfl (of_abs w b hbo)) rfl ?_)
  (refine nx (a_alloc (gd_none rfl) rfl rfl rfl rfl rfl rfl rfl rfl rfl rfl) rfl ?_)
  (refine nx (a_alloc (gd_none rfl) rfl rfl rfl rfl rfl rfl rfl rfl rfl rfl) rfl ?_)
  (refine nx (a_store_all (gd_none rfl) rfl rfl rfl rfl rfl rfl rfl rfl rfl rfl) rfl ?_)
  (refine nx (a_store_all (gd_none rfl) rfl rfl rfl rfl rfl rfl rfl rfl rfl rfl) rfl ?_)
  refine ⟨by kernel_rfl, ?_⟩
  show AWp _ _ _ _ _ _ _
  refine awp_seq (awp_region ?_)
  (refine nx (a_load_all (gd_none rfl) rfl rfl rfl rfl rfl rfl rfl rfl rfl rfl rfl rfl) rfl ?_)
  (refine nx (a_load_all (gd_none rfl) rfl rfl rfl rfl rfl rfl rfl rfl rfl rfl rfl rfl) rfl ?_)
  (refine nx (a_call (gd_none rfl) rfl rfl rfl rfl rfl (hu)) rfl ?_)
  (refine nx (a_move (gd_none rfl) rfl rfl rfl rfl rfl) rfl ?_)
  (refine nx (a_extract (gd_none rfl) rfl rfl rfl rfl rfl rfl) rfl ?_)
  (refine nx (a_extract (gd_none rfl) rfl rfl rfl rfl rfl rfl) rfl ?_)
  (refine nx (a_assign (gd_none rfl) rfl rfl rfl rfl rfl) rfl ?_)
  (refine nx (a_assign (gd_none rfl) rfl rfl rfl rfl rfl) rfl ?_)
  show AWp _ _ _ _ _ _ _
  refine AWp.wk (wk_sub (s' := [(5, .bp 5 0 []), (100005, .bx a.cw), (6, .bp 6 0 []), (100006, .bx b.cw), (7, .val (.lst (r.1.map Bd.cv))), (8, .val (.b r.2))]) ⟨rfl, rfl, rfl, rfl, rfl, rfl, trivial⟩) ?_
  refine awp_mid [(5, .bp 5 0 []), (100005, .bx a.cw), (6, .bp 6 0 []), (100006, .bx b.cw), (7, .val (.lst (r.1.map Bd.cv))), (8, .val (.b r.2))] ?_ ?_
  · have t1 := top_abs w ha
    have t2 := top_abs w hb
    by_cases hA : topF a.flat < 0
    · have gA : decide (topF a.flat < 0) = true := by simpa using hA
      refine awp_seq (awp_region ?_)
      (refine nx (a_load_all (gd_none rfl) rfl rfl rfl rfl rfl rfl rfl rfl rfl rfl rfl rfl) rfl ?_)
      (refine nx (a_call (gd_none rfl) rfl rfl rfl rfl rfl (t1)) rfl ?_)
      (refine nx (a_lss (gd_none rfl) rfl rfl rfl rfl rfl rfl) rfl ?_)
      (refine nx (a_move (gd_none rfl) rfl rfl rfl rfl rfl) rfl ?_)
      (refine nx (a_load_all (gd_on rfl rfl rfl rfl (by first | rfl | assumption | (simp; done))) rfl rfl rfl rfl rfl rfl rfl rfl rfl rfl rfl rfl) rfl ?_)
      (refine nx (a_call (gd_on rfl rfl rfl rfl (by first | rfl | assumption | (simp; done))) rfl rfl rfl rfl rfl (t2)) rfl ?_)
      (refine nx (a_lss (gd_on rfl rfl rfl rfl (by first | rfl | assumption | (simp; done))) rfl rfl rfl rfl rfl rfl) rfl ?_)
      (refine ⟨_, _, _, a_pick_t (gd_none rfl) rfl rfl rfl rfl rfl ?hb rfl, rfl, ?_⟩; case hb => (first | rfl | assumption | (simp; done)))
      show AWp _ _ _ _ _ _ _
      refine awp_cond rfl (fun hc => ?_) (fun hc => awp_skip ?_)
      · have hB : topF b.flat < 0 := by simpa using hc
        have ea := (top_neg a).1 hA
        have eb := (top_neg b).1 hB
        have hsame := same_abs w ha hb
        have e2 : r.2 = sameT a b := by
          cases h2 : r.2 with
          | true =>
            have := (ground_uni ea eb _).1 (htold.yes h2).uni
            rw [eq_comm, sameT_iff]
            exact this
          | false =>
            have := (htold.no h2).2
            cases hs : sameT a b with
            | false => rfl
            | true => exact absurd ((ground_uni ea eb varT).2 ((sameT_iff _ _).1 hs)) (this _)
        have e1 : r.1 = [] := by
          cases h1 : r.1 with
          | nil => rfl
          | cons x L =>
            have := (htold.inV x (by rw [h1]; simp)).1
            have := mem_vp this
            rw [nv_vars, nv_vars] at this
            unfold Tm.nv at this
            rw [ea, eb] at this
            cases this
        rw [e1, e2]
        cases hs : sameT a b with
        | true =>
          rw [hs] at hsame
          refine awp_seq (awp_region ?_)
          (refine nx (a_move (gd_none rfl) rfl rfl rfl rfl rfl) rfl ?_)
          (refine nx (a_load_all (gd_none rfl) rfl rfl rfl rfl rfl rfl rfl rfl rfl rfl rfl rfl) rfl ?_)
          (refine nx (a_load_all (gd_none rfl) rfl rfl rfl rfl rfl rfl rfl rfl rfl rfl rfl rfl) rfl ?_)
          (refine nx (a_call (gd_none rfl) rfl rfl rfl rfl rfl (hsame)) rfl ?_)
          (refine nx (a_beq (gd_none rfl) rfl rfl rfl rfl rfl rfl rfl) rfl ?_)
          (refine nx (a_move (gd_none rfl) rfl rfl rfl rfl rfl) rfl ?_)
          (refine nx (a_move (gd_on rfl rfl rfl rfl (by first | rfl | assumption | (simp; done))) rfl rfl rfl rfl rfl) rfl ?_)
          (refine nx (a_len (gd_on rfl rfl rfl rfl (by first | rfl | assumption | (simp; done))) rfl rfl rfl rfl rfl rfl rfl) rfl ?_)
          (refine nx (a_eql (gd_on rfl rfl rfl rfl (by first | rfl | assumption | (simp; done))) rfl rfl rfl rfl rfl rfl) rfl ?_)
          (refine ⟨_, _, _, a_pick_t (gd_none rfl) rfl rfl rfl rfl rfl ?hb rfl, rfl, ?_⟩; case hb => (first | rfl | assumption | (simp; done)))
          (refine nx (a_assign (gd_none rfl) rfl rfl rfl rfl rfl) rfl ?_)
          show AWp _ _ _ _ _ _ _
          exact awp_ret (And.intro (.inr rfl) rfl)
        | false =>
          rw [hs] at hsame
          refine awp_seq (awp_region ?_)
          (refine nx (a_move (gd_none rfl) rfl rfl rfl rfl rfl) rfl ?_)
          (refine nx (a_load_all (gd_none rfl) rfl rfl rfl rfl rfl rfl rfl rfl rfl rfl rfl rfl) rfl ?_)
          (refine nx (a_load_all (gd_none rfl) rfl rfl rfl rfl rfl rfl rfl rfl rfl rfl rfl rfl) rfl ?_)
          (refine nx (a_call (gd_none rfl) rfl rfl rfl rfl rfl (hsame)) rfl ?_)
          (refine nx (a_beq (gd_none rfl) rfl rfl rfl rfl rfl rfl rfl) rfl ?_)
          (refine nx (a_move (gd_none rfl) rfl rfl rfl rfl rfl) rfl ?_)
          (refine nx (a_move (gd_on rfl rfl rfl rfl (by first | rfl | assumption | (simp; done))) rfl rfl rfl rfl rfl) rfl ?_)
          (refine nx (a_len (gd_on rfl rfl rfl rfl (by first | rfl | assumption | (simp; done))) rfl rfl rfl rfl rfl rfl rfl) rfl ?_)
          (refine nx (a_eql (gd_on rfl rfl rfl rfl (by first | rfl | assumption | (simp; done))) rfl rfl rfl rfl rfl rfl) rfl ?_)
          (refine ⟨_, _, _, a_pick_t (gd_none rfl) rfl rfl rfl rfl rfl ?hb rfl, rfl, ?_⟩; case hb => (first | rfl | assumption | (simp; done)))
          (refine nx (a_assign (gd_none rfl) rfl rfl rfl rfl rfl) rfl ?_)
          show AWp _ _ _ _ _ _ _
          exact awp_ret (And.intro (.inr rfl) rfl)
      · exact wk_sub ⟨rfl, rfl, rfl, rfl, rfl, rfl, trivial⟩
    · have gA : decide (topF a.flat < 0) = false := by simpa using hA
      refine awp_seq (awp_region ?_)
      (refine nx (a_load_all (gd_none rfl) rfl rfl rfl rfl rfl rfl rfl rfl rfl rfl rfl rfl) rfl ?_)
      (refine nx (a_call (gd_none rfl) rfl rfl rfl rfl rfl (t1)) rfl ?_)
      (refine nx (a_lss (gd_none rfl) rfl rfl rfl rfl rfl rfl) rfl ?_)
      (refine nx (a_move (gd_none rfl) rfl rfl rfl rfl rfl) rfl ?_)
      (refine ⟨_, _, _, a_off (go_off rfl rfl rfl rfl (by first | rfl | assumption | (simp; done) | (simp [*]; done))) rfl rfl rfl, rfl, ?_⟩)
      (refine ⟨_, _, _, a_off (go_off rfl rfl rfl rfl (by first | rfl | assumption | (simp; done) | (simp [*]; done))) rfl rfl rfl, rfl, ?_⟩)
      (refine ⟨_, _, _, a_off (go_off rfl rfl rfl rfl (by first | rfl | assumption | (simp; done) | (simp [*]; done))) rfl rfl rfl, rfl, ?_⟩)
      (refine ⟨_, _, _, a_pick_f (gd_none rfl) rfl rfl rfl rfl rfl ?hb rfl, rfl, ?_⟩; case hb => (first | rfl | assumption | (simp; done)))
      show AWp _ _ _ _ _ _ _
      refine awp_cond rfl (fun hc => by cases hc) (fun hc => awp_skip ?_)
      exact wk_sub ⟨rfl, rfl, rfl, rfl, rfl, rfl, trivial⟩
  cases h2 : r.2 with
  | false =>
    refine awp_seq (awp_seq (awp_region ?_))
    (refine nx (a_move (gd_none rfl) rfl rfl rfl rfl rfl) rfl ?_)
    (refine nx (a_not (gd_none rfl) rfl rfl rfl rfl rfl) rfl ?_)
    show AWp _ _ _ _ _ _ _
    refine awp_cond rfl (fun hc => ?_) (fun hc => by cases hc)
    refine awp_seq (awp_region ?_)
    (refine nx (a_assign (gd_none rfl) rfl rfl rfl rfl rfl) rfl ?_)
    show AWp _ _ _ _ _ _ _
    exact awp_ret (And.intro (.inr rfl) rfl)
  | true =>
  have hmgu := htold.yes h2
  refine awp_seq (awp_seq (awp_region ?_))
  (refine nx (a_move (gd_none rfl) rfl rfl rfl rfl rfl) rfl ?_)
  (refine nx (a_not (gd_none rfl) rfl rfl rfl rfl rfl) rfl ?_)
  show AWp _ _ _ _ _ _ _
  refine awp_cond rfl (fun hc => by cases hc) (fun hc => awp_skip ?_)
  show AWp _ _ _ _ _ _ _
  have la := vars8_len a
  have lb := vars8_len b
  have hva := varsO_abs 300054 (by decide) (by decide) ha (by omega)
  have hvb := vars_abs w hb (by omega)
  refine awp_seq (awp_draw (by kernel_rfl) (by kernel_rfl) ?_)
  (refine nx (a_load_all (gd_none rfl) rfl rfl rfl rfl rfl rfl rfl rfl rfl rfl rfl rfl) rfl ?_)
  (refine nx (a_callO (gd_none rfl) rfl rfl rfl rfl rfl (hva) (by repeat (first | exact trivial | refine ⟨rfl, ?_⟩)) (by first | rfl | kernel_rfl) (by first | rfl | kernel_rfl) (by first | rfl | kernel_rfl) (by first | rfl | kernel_rfl) (hnb_of (by first | rfl | kernel_rfl))) rfl ?_)
  (refine nx (a_load_all (gd_none rfl) rfl rfl rfl rfl rfl rfl rfl rfl rfl rfl rfl rfl) rfl ?_)
  (refine nx (a_call (gd_none rfl) rfl rfl rfl rfl rfl (hvb)) rfl ?_)
  (refine nx (a_appM 300057 (gd_none rfl) rfl rfl rfl rfl rfl rfl rfl rfl rfl rfl rfl rfl rfl (by first | rfl | omega | (simp only [List.length_set, List.length_map, List.length_append, List.length_cons, List.length_nil] <;> omega) | (simp <;> omega)) (by first | assumption | exact szAll_spec rfl | exact Tm.size_all _ | exact Bd.size_all _ | exact ints_size _) (by first | omega | (simp only [List.length_map, List.length_append, List.length_cons, List.length_nil] <;> omega) | (simp <;> omega))) rfl ?_)
  (refine nx (a_assign (gd_none rfl) rfl rfl rfl rfl rfl) rfl ?_)
  refine ⟨by kernel_rfl, ?_⟩
  show AWp _ _ _ _ _ _ _
  obtain ⟨V, hV⟩ : ∃ V, V = varsF a.flat ++ varsF b.flat := ⟨_, rfl⟩
  refine AWp.wk ((wk_frz 9 300057 rfl rfl rfl (.inl hW.2) (by rw [List.length_append]; omega) (s' := [(5, .bp 5 0 []), (100005, .bx a.cw), (7, .val (.lst (r.1.map Bd.cv)))]) ⟨rfl, rfl, rfl, trivial⟩ rfl).trans (wk_sub (s' := [(9, .val (.lst (V.map CV.i))), (5, .bp 5 0 []), (100005, .bx a.cw), (7, .val (.lst (r.1.map Bd.cv)))]) ⟨by
    rw [hV, List.drop_zero, List.take_of_length_le (by rw [List.length_append]; exact Nat.le_refl _), List.map_append]
    rfl, rfl, rfl, rfl, trivial⟩)) ?_
  have hVl : V.length ≤ 32 := by rw [hV, List.length_append]; omega
  have hVs := ints_size V
  have hap := apply_abs w r.1 a htold.len htold.bdsOk ha hao
  have hvx := vars_abs w (rep_rng htold.bdsOk ha) (htold.big a (subs_has (l := [(a, b)]) (p := (a, b)) (by simp)).1)
  obtain ⟨L, hL⟩ : ∃ L, L = varsF (repT (imgB r.1) a).flat := ⟨_, rfl⟩
  have hLl : L.length ≤ 90000000000 := by
    rw [hL]
    have := vars8_len (repT (imgB r.1) a)
    have := htold.big a (subs_has (l := [(a, b)]) (p := (a, b)) (by simp)).1
    omega
  have hLs := ints_size L
  have hLu : ∀ u ∈ L, u ∈ V ∧ findB r.1 u = none := fun u hu => by
    rw [hL, nv_vars] at hu
    have hu := (mem_nub _ _).1 hu
    refine ⟨?_, htold.free a u hu⟩
    rw [hV]
    exact mem_vp (rep_inV (fun x hx => (htold.inV x hx).2) vp_of.1 u hu)
  rw [← hL] at hvx
  refine awp_seq (awp_region ?_)
  (refine nx (a_move (gd_none rfl) rfl rfl rfl rfl rfl) rfl ?_)
  (refine nx (a_load_all (gd_none rfl) rfl rfl rfl rfl rfl rfl rfl rfl rfl rfl rfl rfl) rfl ?_)
  (refine nx (a_call (gd_none rfl) rfl rfl rfl rfl rfl (hap)) rfl ?_)
  (refine nx (a_call (gd_none rfl) rfl rfl rfl rfl rfl (hvx)) rfl ?_)
  (refine nx (a_assign (gd_none rfl) rfl rfl rfl rfl rfl) rfl ?_)
  show AWp _ _ _ _ _ _ _
  refine awp_seq (awp_seq (awp_region ?_))
  (refine nx (a_assign (gd_none rfl) rfl rfl rfl rfl rfl) rfl ?_)
  show AWp _ _ _ _ _ _ _
  refine awp_block (awp_count L.length (fun i => [(7, .val (.lst (r.1.map Bd.cv))), (9, .val (.lst (V.map CV.i))), (10, .val (.lst (L.map CV.i))), (11, .val (.i i))]) (wk_sub ⟨rfl, rfl, rfl, rfl, trivial⟩) ?_)
  intro i hi
  refine awp_seq (awp_seq (awp_region ?_))
  (refine nx (a_move (gd_none rfl) rfl rfl rfl rfl rfl) rfl ?_)
  (refine nx (a_move (gd_none rfl) rfl rfl rfl rfl rfl) rfl ?_)
  (refine nx (a_len (gd_none rfl) rfl rfl rfl rfl rfl rfl rfl) rfl ?_)
  (refine nx (a_lss (gd_none rfl) rfl rfl rfl rfl rfl rfl) rfl ?_)
  show AWp _ _ _ _ _ _ _
  refine awp_cond rfl (fun hlt => ?_) (fun hlt => ?_)
  case refine_2 =>
    refine awp_exit ?_
    show AWp _ _ _ _ _ _ _
    have hle : decide (((r.1.map Bd.cv).length : Int) ≤ ((V.map CV.i).length : Int)) = true := by
      rw [List.length_map, List.length_map, decide_eq_true_eq]
      have h9 : (r.1.map Bd.v).Nodup := (List.pairwise_map.2 (htold.srt.imp fun h => by omega))
      have := nodup_sub_len (m := V) h9 (fun x hx => by
        obtain ⟨c, hc, rfl⟩ := List.mem_map.1 hx
        rw [hV]; exact mem_vp (htold.inV c hc).1)
      rw [List.length_map] at this
      omega
    refine awp_seq (awp_region ?_)
    (refine nx (a_move (gd_none rfl) rfl rfl rfl rfl rfl) rfl ?_)
    (refine nx (a_len (gd_none rfl) rfl rfl rfl rfl rfl rfl rfl) rfl ?_)
    (refine nx (a_move (gd_none rfl) rfl rfl rfl rfl rfl) rfl ?_)
    (refine nx (a_len (gd_none rfl) rfl rfl rfl rfl rfl rfl rfl) rfl ?_)
    (refine nx (a_leq (gd_none rfl) rfl rfl rfl rfl rfl rfl) rfl ?_)
    (refine nx (a_assign (gd_none rfl) rfl rfl rfl rfl rfl) rfl ?_)
    show AWp _ _ _ _ _ _ _
    rw [hle]
    exact awp_ret (And.intro (.inr rfl) rfl)
  have hil : i < L.length := by simpa using hlt
  obtain ⟨u, hu⟩ : ∃ u, L[i]? = some u := ⟨L[i], List.getElem?_eq_getElem hil⟩
  have hu' := ints_at hu
  obtain ⟨huV, huF⟩ := hLu u (List.mem_of_getElem? hu)
  refine awp_skip ?_
  show AWp _ _ _ _ _ _ _
  refine awp_seq (awp_block (awp_seq (awp_region ?_)))
  (refine nx (a_assign (gd_none rfl) rfl rfl rfl rfl rfl) rfl ?_)
  show AWp _ _ _ _ _ _ _
  refine awp_seq (awp_seq (awp_region ?_))
  (refine nx (a_assign (gd_none rfl) rfl rfl rfl rfl rfl) rfl ?_)
  show AWp _ _ _ _ _ _ _
  refine awp_block (awp_count V.length (fun k => [(7, .val (.lst (r.1.map Bd.cv))), (9, .val (.lst (V.map CV.i))), (10, .val (.lst (L.map CV.i))), (11, .val (.i i)), (12, .val (.b (decide (u ∈ V.take k)))), (13, .val (.i k))]) (wk_sub ⟨rfl, rfl, rfl, rfl, by simp; rfl, rfl, trivial⟩) ?_)
  intro k hk
  refine awp_seq (awp_seq (awp_region ?_))
  (refine nx (a_move (gd_none rfl) rfl rfl rfl rfl rfl) rfl ?_)
  (refine nx (a_move (gd_none rfl) rfl rfl rfl rfl rfl) rfl ?_)
  (refine nx (a_len (gd_none rfl) rfl rfl rfl rfl rfl rfl rfl) rfl ?_)
  (refine nx (a_lss (gd_none rfl) rfl rfl rfl rfl rfl rfl) rfl ?_)
  show AWp _ _ _ _ _ _ _
  refine awp_cond rfl (fun hlt2 => ?_) (fun hlt2 => ?_)
  · have hkl : k < V.length := by simpa using hlt2
    obtain ⟨x, hx⟩ : ∃ x, V[k]? = some x := ⟨V[k], List.getElem?_eq_getElem hkl⟩
    have hx' := ints_at hx
    have htk : V.take (k + 1) = V.take k ++ [x] := by rw [List.take_add_one, hx]; rfl
    refine awp_skip ?_
    show AWp _ _ _ _ _ _ _
    by_cases hin : u ∈ V.take k
    · rw [show decide (u ∈ V.take k) = true by simpa using hin]
      refine awp_seq (awp_block (awp_draw (by kernel_rfl) (by kernel_rfl) ?_))
      (refine nx (a_move (gd_none rfl) rfl rfl rfl rfl rfl) rfl ?_)
      (refine nx (a_move (gd_none rfl) rfl rfl rfl rfl rfl) rfl ?_)
      (refine ⟨_, _, _, a_off (go_off rfl rfl rfl rfl (by first | rfl | assumption | (simp; done) | (simp [*]; done))) rfl rfl rfl, rfl, ?_⟩)
      (refine ⟨_, _, _, a_off (go_off rfl rfl rfl rfl (by first | rfl | assumption | (simp; done) | (simp [*]; done))) rfl rfl rfl, rfl, ?_⟩)
      (refine ⟨_, _, _, a_off (go_off rfl rfl rfl rfl (by first | rfl | assumption | (simp; done) | (simp [*]; done))) rfl rfl rfl, rfl, ?_⟩)
      (refine ⟨_, _, _, a_off (go_off rfl rfl rfl rfl (by first | rfl | assumption | (simp; done) | (simp [*]; done))) rfl rfl rfl, rfl, ?_⟩)
      (refine ⟨_, _, _, a_off (go_off rfl rfl rfl rfl (by first | rfl | assumption | (simp; done) | (simp [*]; done))) rfl rfl rfl, rfl, ?_⟩)
      (refine ⟨_, _, _, a_off (go_off rfl rfl rfl rfl (by first | rfl | assumption | (simp; done) | (simp [*]; done))) rfl rfl rfl, rfl, ?_⟩)
      (refine ⟨_, _, _, a_off (go_off rfl rfl rfl rfl (by first | rfl | assumption | (simp; done) | (simp [*]; done))) rfl rfl rfl, rfl, ?_⟩)
      (refine ⟨_, _, _, a_off (go_off rfl rfl rfl rfl (by first | rfl | assumption | (simp; done) | (simp [*]; done))) rfl rfl rfl, rfl, ?_⟩)
      (refine ⟨_, _, _, a_off (go_off rfl rfl rfl rfl (by first | rfl | assumption | (simp; done) | (simp [*]; done))) rfl rfl rfl, rfl, ?_⟩)
      (refine ⟨_, _, _, a_pick_t (gd_none rfl) rfl rfl rfl rfl rfl ?hb rfl, rfl, ?_⟩; case hb => (first | rfl | assumption | (simp; done)))
      (refine nx (a_assign (gd_none rfl) rfl rfl rfl rfl rfl) rfl ?_)
      refine ⟨by kernel_rfl, ?_⟩
      show AWp _ _ _ _ _ _ _
      refine awp_region ?_
      (refine nx (a_move (gd_none rfl) rfl rfl rfl rfl rfl) rfl ?_)
      (refine nx (a_add (gd_none rfl) rfl rfl rfl rfl rfl rfl (by first | omega | (simp only [List.length_map, List.length_append, List.length_cons, List.length_nil] <;> omega) | (simp <;> omega))) rfl ?_)
      (refine nx (a_assign (gd_none rfl) rfl rfl rfl rfl rfl) rfl ?_)
      refine ⟨hkl, wk_sub ⟨rfl, rfl, rfl, rfl, ?_, rfl, trivial⟩⟩
      rw [show decide (u ∈ V.take (k + 1)) = true by rw [decide_eq_true_eq, htk]; exact List.mem_append_left _ hin]
      rfl
    · rw [show decide (u ∈ V.take k) = false by simpa using hin]
      refine awp_seq (awp_block (awp_draw (by kernel_rfl) (by kernel_rfl) ?_))
      (refine nx (a_move (gd_none rfl) rfl rfl rfl rfl rfl) rfl ?_)
      (refine nx (a_move (gd_none rfl) rfl rfl rfl rfl rfl) rfl ?_)
      (refine nx (a_move (gd_on rfl rfl rfl rfl (by first | rfl | assumption | (simp; done))) rfl rfl rfl rfl rfl) rfl ?_)
      (refine nx (a_move (gd_on rfl rfl rfl rfl (by first | rfl | assumption | (simp; done))) rfl rfl rfl rfl rfl) rfl ?_)
      (refine nx (a_index (j := k) (gd_on rfl rfl rfl rfl (by first | rfl | assumption | (simp; done))) rfl rfl rfl rfl rfl rfl rfl rfl rfl (hx') rfl (hVs)) rfl ?_)
      (refine nx (a_load_ad (gd_on rfl rfl rfl rfl (by first | rfl | assumption | (simp; done))) rfl rfl rfl rfl rfl rfl rfl rfl rfl) rfl ?_)
      (refine nx (a_move (gd_on rfl rfl rfl rfl (by first | rfl | assumption | (simp; done))) rfl rfl rfl rfl rfl) rfl ?_)
      (refine nx (a_move (gd_on rfl rfl rfl rfl (by first | rfl | assumption | (simp; done))) rfl rfl rfl rfl rfl) rfl ?_)
      (refine nx (a_index (j := i) (gd_on rfl rfl rfl rfl (by first | rfl | assumption | (simp; done))) rfl rfl rfl rfl rfl rfl rfl rfl rfl (hu') rfl (hLs)) rfl ?_)
      (refine nx (a_load_ad (gd_on rfl rfl rfl rfl (by first | rfl | assumption | (simp; done))) rfl rfl rfl rfl rfl rfl rfl rfl rfl) rfl ?_)
      (refine nx (a_eql (gd_on rfl rfl rfl rfl (by first | rfl | assumption | (simp; done))) rfl rfl rfl rfl rfl rfl) rfl ?_)
      (refine ⟨_, _, _, a_pick_f (gd_none rfl) rfl rfl rfl rfl rfl ?hb rfl, rfl, ?_⟩; case hb => (first | rfl | assumption | (simp; done)))
      (refine nx (a_assign (gd_none rfl) rfl rfl rfl rfl rfl) rfl ?_)
      refine ⟨by kernel_rfl, ?_⟩
      show AWp _ _ _ _ _ _ _
      refine awp_region ?_
      (refine nx (a_move (gd_none rfl) rfl rfl rfl rfl rfl) rfl ?_)
      (refine nx (a_add (gd_none rfl) rfl rfl rfl rfl rfl rfl (by first | omega | (simp only [List.length_map, List.length_append, List.length_cons, List.length_nil] <;> omega) | (simp <;> omega))) rfl ?_)
      (refine nx (a_assign (gd_none rfl) rfl rfl rfl rfl rfl) rfl ?_)
      refine ⟨hkl, wk_sub ⟨rfl, rfl, rfl, rfl, ?_, rfl, trivial⟩⟩
      rw [show decide (u ∈ V.take (k + 1)) = decide (x = u) by
        rw [htk]
        by_cases e : x = u
        · subst e; simp
        · simp [hin, e, Ne.symm e, fun h : u = x => e h.symm]]
      rfl
  · have hkl : k = V.length := by
      have : ¬ k < V.length := by simpa using hlt2
      omega
    subst hkl
    refine awp_exit ?_
    show AWp _ _ _ _ _ _ _
    rw [show decide (u ∈ V.take V.length) = true by rw [List.take_length]; simpa using huV]
    have hg := get_abs w r.1 u (by have := htold.len; omega) htold.bdsOk
    rw [huF] at hg
    refine awp_seq (awp_region ?_)
    (refine nx (a_move (gd_none rfl) rfl rfl rfl rfl rfl) rfl ?_)
    (refine nx (a_move (gd_none rfl) rfl rfl rfl rfl rfl) rfl ?_)
    (refine nx (a_move (gd_none rfl) rfl rfl rfl rfl rfl) rfl ?_)
    (refine nx (a_index (j := i) (gd_none rfl) rfl rfl rfl rfl rfl rfl rfl rfl rfl (hu') rfl (hLs)) rfl ?_)
    (refine nx (a_load_ad (gd_none rfl) rfl rfl rfl rfl rfl rfl rfl rfl rfl) rfl ?_)
    (refine nx (a_call (gd_none rfl) rfl rfl rfl rfl rfl (hg)) rfl ?_)
    (refine nx (a_move (gd_none rfl) rfl rfl rfl rfl rfl) rfl ?_)
    (refine nx (a_extract (gd_none rfl) rfl rfl rfl rfl rfl rfl) rfl ?_)
    (refine nx (a_extract (gd_none rfl) rfl rfl rfl rfl rfl rfl) rfl ?_)
    (refine nx (a_alloc (gd_none rfl) rfl rfl rfl rfl rfl rfl rfl rfl rfl rfl) rfl ?_)
    (refine nx (a_store_all (gd_none rfl) rfl rfl rfl rfl rfl rfl rfl rfl rfl rfl) rfl ?_)
    (refine nx (a_assign (gd_none rfl) rfl rfl rfl rfl rfl) rfl ?_)
    show AWp _ _ _ _ _ _ _
    refine awp_seq (awp_region ?_)
    (refine nx (a_move (gd_none rfl) rfl rfl rfl rfl rfl) rfl ?_)
    (refine nx (a_not (gd_none rfl) rfl rfl rfl rfl rfl) rfl ?_)
    (refine nx (a_move (gd_none rfl) rfl rfl rfl rfl rfl) rfl ?_)
    (refine nx (a_move (gd_on rfl rfl rfl rfl (by first | rfl | assumption | (simp; done))) rfl rfl rfl rfl rfl) rfl ?_)
    (refine ⟨_, _, _, a_pick_f (gd_none rfl) rfl rfl rfl rfl rfl ?hb rfl, rfl, ?_⟩; case hb => (first | rfl | assumption | (simp; done)))
    show AWp _ _ _ _ _ _ _
    refine awp_cond rfl (fun hc => by cases hc) (fun hc => awp_skip ?_)
    show AWp _ _ _ _ _ _ _
    refine awp_region ?_
    (refine nx (a_move (gd_none rfl) rfl rfl rfl rfl rfl) rfl ?_)
    (refine nx (a_add (gd_none rfl) rfl rfl rfl rfl rfl rfl (by first | omega | (simp only [List.length_map, List.length_append, List.length_cons, List.length_nil] <;> omega) | (simp <;> omega))) rfl ?_)
    (refine nx (a_assign (gd_none rfl) rfl rfl rfl rfl rfl) rfl ?_)
    exact ⟨hil, wk_sub ⟨rfl, rfl, rfl, rfl, trivial⟩⟩
end Go.Proofs.Ytiammidklcjelab

