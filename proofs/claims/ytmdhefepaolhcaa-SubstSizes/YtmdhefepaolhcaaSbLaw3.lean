/-
  The law SubstSizes.
-/
import Derived.Test.YtmdhefepaolhcaaSbSortM
import Derived.Test.YtmdhefepaolhcaaSbSmall
import Derived.Test.YtmdhefepaolhcaaSbRen
import Derived.Test.YtmdhefepaolhcaaAbOf
import Derived.Test.YtmdhefepaolhcaaTmOrd
namespace Go.Proofs.Ytmdhefepaolhcaa
open Go.RowKit
set_option linter.unusedVariables false
set_option linter.unusedSimpArgs false
set_option maxRecDepth 100000

theorem rep_congrS {f g : Int → Tm} {t : Tm} (h : ∀ v ∈ t.vs, (f v).strip = (g v).strip) : repT f t = repT g t := by
  induction t using Tm.indp with
  | h t ih =>
    by_cases hf : t.f < 0
    · rw [Tm.vs_var hf] at h
      rw [repT_var hf, repT_var hf, h _ (by simp)]
    · rw [Tm.vs_sym hf] at h
      rw [Tm.ps_of_sym (by omega)] at ih
      rw [repT_sym hf, repT_sym hf]
      congr 1
      exact List.map_congr_left fun s hs => ih s hs fun v hv => h v (List.mem_flatMap.2 ⟨s, hs, hv⟩)
theorem rep_norm (L : List Bd) (t : Tm) : repT (imgB (normF L)) t = repT (imgB L) t := rep_congrS fun v hv => img_norm L (vs_nonneg t v hv)
theorem cnt_vs (n : Int) (hn : 0 ≤ n) : ∀ l : List Tm, cntF (-1 - n) l = ((vsL l).filter fun v => decide (v = n)).length
  | [] => rfl
  | t :: l => by
    have ih := cnt_vs n hn l
    unfold cntF vsL at ih ⊢
    by_cases h : t.f < 0
    · by_cases h2 : t.f = -1 - n
      · have h3 : -1 - t.f = n := by omega
        have h4 : -1 - n < 0 := by omega
        simp [h2, h4, ih, show -1 - (-1 - n) = n by omega]
      · have h3 : ¬ -1 - t.f = n := by omega
        simp [h, h2, h3, ih]
    · have h2 : ¬ t.f = -1 - n := by omega
      simp [h, h2, ih]
theorem img_two (n : Int) (y : Tm) (v : Int) : imgB [⟨n, y⟩, ⟨n, ⟨1, []⟩⟩] v = if v = n then y else varT v := by
  unfold imgB
  by_cases h : v = n
  · rw [if_pos h, findB, if_pos h.symm]; rfl
  · rw [if_neg h, findB, if_neg (fun e => h e.symm), findB, if_neg (fun e => h e.symm), findB]; rfl
theorem size_two (n : Int) (hn : 0 ≤ n) (y t : Tm) : ((repT (imgB [⟨n, y⟩, ⟨n, ⟨1, []⟩⟩]) t).size : Int) = t.size + (cntF (-1 - n) t.flat : Int) * ((y.size : Int) - 1) := by
  rw [repT_size, cnt_vs n hn]
  show _ = (t.size : Int) + (((t.vs).filter fun v => decide (v = n)).length : Int) * _
  congr 1
  generalize t.vs = l
  induction l with
  | nil => simp
  | cons v l ih =>
    rw [List.map_cons, List.sum_cons, ih, img_two, List.filter_cons]
    by_cases h : v = n
    · rw [if_pos h, if_pos (by simpa using h), List.length_cons]
      have : (((l.filter fun v => decide (v = n)).length + 1 : Nat) : Int) = ((l.filter fun v => decide (v = n)).length : Int) + 1 := rfl
      rw [this, Int.add_mul, Int.one_mul, Int.add_comm]
    · rw [if_neg h, if_neg (by simpa using h), varT_size]
      simp

-- 
set_option maxHeartbeats 4000000 in
theorem substSizes_abs (W : World) (t u : Tm) (v : Int) (hr : t.rng) (hur : u.rng) (hv : 0 ≤ v ∧ v ≤ 255) : AFun Try.prog W 6 [t.cw, u.cw, .sc (.int .u8 v)] (.val (.b true)) := by
  refine afun_of (rs := [.b true]) Try.func6 Try.ntmps6 rfl rfl rfl rfl ?_
  intro w U hW
  refine awp_seq (awp_region ?_)
  (refine ⟨_, _, _, a_box (gd_none rfl) rfl rfl rfl rfl rfl, rfl, ?_⟩)
  (refine ⟨_, _, _, a_box (gd_none rfl) rfl rfl rfl rfl rfl, rfl, ?_⟩)
  (refine ⟨_, _, _, a_assign (gd_none rfl) rfl rfl rfl rfl rfl, rfl, ?_⟩)
  show AWp _ _ _ _ _ _ _
  refine awp_seq (awp_seq (awp_region ?_))
  (refine ⟨_, _, _, a_call (gd_none rfl) rfl rfl rfl rfl rfl (alive7_abs w), rfl, ?_⟩)
  (refine ⟨_, _, _, a_not (gd_none rfl) rfl rfl rfl rfl rfl, rfl, ?_⟩)
  show AWp _ _ _ _ _ _ _
  refine awp_cond rfl (fun hc => by cases hc) (fun _ => awp_skip ?_)
  show AWp _ _ _ _ _ _ _
  refine AWp.wk (wk_sub (s' := [(2, .val (.sc (.int .u8 v))), (3, .bp 3 0 []), (100003, .bx t.cw), (4, .bp 4 0 []), (100004, .bx u.cw)]) ⟨rfl, rfl, rfl, rfl, rfl, trivial⟩) ?_
  have f1 := small_abs w t 30 15 hr (by decide) (by decide) (by decide) (by decide)
  have f2 := small_abs w u 20 10 hur (by decide) (by decide) (by decide) (by decide)
  by_cases h1 : smallT t 30 15 < 0
  · have g : decide (smallT t 30 15 < 0) = true := by simpa using h1
    refine awp_seq (awp_seq (awp_region ?_))
    (first | (refine ⟨_, _, _, a_load_all (gd_none rfl) rfl rfl rfl rfl rfl rfl rfl rfl rfl rfl rfl rfl, rfl, ?_⟩) | (refine ⟨_, _, _, a_load_tok (gd_none rfl) rfl rfl rfl rfl rfl rfl rfl rfl rfl rfl rfl rfl rfl, rfl, ?_⟩) | (refine ⟨_, _, _, a_load_bp (gd_none rfl) rfl rfl rfl rfl rfl rfl rfl rfl rfl rfl rfl rfl, rfl, ?_⟩) | (refine ⟨_, _, _, a_load_ad (gd_none rfl) rfl rfl rfl rfl rfl rfl rfl rfl rfl, rfl, ?_⟩) | (refine ⟨_, _, _, a_load_ptr (gd_none rfl) rfl rfl rfl rfl rfl rfl rfl rfl rfl, rfl, ?_⟩))
    (refine ⟨_, _, _, a_call (gd_none rfl) rfl rfl rfl rfl rfl (f1), rfl, ?_⟩)
    (refine ⟨_, _, _, a_lss (gd_none rfl) rfl rfl rfl rfl rfl rfl, rfl, ?_⟩)
    (refine ⟨_, _, _, a_move (gd_none rfl) rfl rfl rfl rfl rfl, rfl, ?_⟩)
    (refine ⟨_, _, _, a_off (go_off rfl rfl rfl rfl (by first | rfl | assumption | (simp; done) | (simp [*]; done))) rfl rfl rfl, rfl, ?_⟩)
    (refine ⟨_, _, _, a_off (go_off rfl rfl rfl rfl (by first | rfl | assumption | (simp; done) | (simp [*]; done))) rfl rfl rfl, rfl, ?_⟩)
    (refine ⟨_, _, _, a_off (go_off rfl rfl rfl rfl (by first | rfl | assumption | (simp; done) | (simp [*]; done))) rfl rfl rfl, rfl, ?_⟩)
    (first | (refine ⟨_, _, _, a_pick_t (gd_none rfl) rfl rfl rfl rfl rfl ?hb rfl, rfl, ?_⟩; case hb => (first | rfl | assumption | (simp; done))) | (refine ⟨_, _, _, a_pick_f (gd_none rfl) rfl rfl rfl rfl rfl ?hb rfl, rfl, ?_⟩; case hb => (first | rfl | assumption | (simp; done))))
    show AWp _ _ _ _ _ _ _
    refine awp_cond rfl (fun hc => ?_) (fun hc => by cases hc)
    refine awp_seq (awp_region ?_)
    (refine ⟨_, _, _, a_assign (gd_none rfl) rfl rfl rfl rfl rfl, rfl, ?_⟩)
    show AWp _ _ _ _ _ _ _
    exact awp_ret (And.intro (.inr rfl) rfl)
  have g : decide (smallT t 30 15 < 0) = false := by simpa using h1
  refine awp_seq (awp_seq (awp_region ?_))
  (first | (refine ⟨_, _, _, a_load_all (gd_none rfl) rfl rfl rfl rfl rfl rfl rfl rfl rfl rfl rfl rfl, rfl, ?_⟩) | (refine ⟨_, _, _, a_load_tok (gd_none rfl) rfl rfl rfl rfl rfl rfl rfl rfl rfl rfl rfl rfl rfl, rfl, ?_⟩) | (refine ⟨_, _, _, a_load_bp (gd_none rfl) rfl rfl rfl rfl rfl rfl rfl rfl rfl rfl rfl rfl, rfl, ?_⟩) | (refine ⟨_, _, _, a_load_ad (gd_none rfl) rfl rfl rfl rfl rfl rfl rfl rfl rfl, rfl, ?_⟩) | (refine ⟨_, _, _, a_load_ptr (gd_none rfl) rfl rfl rfl rfl rfl rfl rfl rfl rfl, rfl, ?_⟩))
  (refine ⟨_, _, _, a_call (gd_none rfl) rfl rfl rfl rfl rfl (f1), rfl, ?_⟩)
  (refine ⟨_, _, _, a_lss (gd_none rfl) rfl rfl rfl rfl rfl rfl, rfl, ?_⟩)
  (refine ⟨_, _, _, a_move (gd_none rfl) rfl rfl rfl rfl rfl, rfl, ?_⟩)
  (first | (refine ⟨_, _, _, a_load_all (gd_on rfl rfl rfl rfl (by first | rfl | assumption | (simp; done))) rfl rfl rfl rfl rfl rfl rfl rfl rfl rfl rfl rfl, rfl, ?_⟩) | (refine ⟨_, _, _, a_load_tok (gd_on rfl rfl rfl rfl (by first | rfl | assumption | (simp; done))) rfl rfl rfl rfl rfl rfl rfl rfl rfl rfl rfl rfl rfl, rfl, ?_⟩) | (refine ⟨_, _, _, a_load_bp (gd_on rfl rfl rfl rfl (by first | rfl | assumption | (simp; done))) rfl rfl rfl rfl rfl rfl rfl rfl rfl rfl rfl rfl, rfl, ?_⟩) | (refine ⟨_, _, _, a_load_ad (gd_on rfl rfl rfl rfl (by first | rfl | assumption | (simp; done))) rfl rfl rfl rfl rfl rfl rfl rfl rfl, rfl, ?_⟩) | (refine ⟨_, _, _, a_load_ptr (gd_on rfl rfl rfl rfl (by first | rfl | assumption | (simp; done))) rfl rfl rfl rfl rfl rfl rfl rfl rfl, rfl, ?_⟩))
  (refine ⟨_, _, _, a_call (gd_on rfl rfl rfl rfl (by first | rfl | assumption | (simp; done))) rfl rfl rfl rfl rfl (f2), rfl, ?_⟩)
  (refine ⟨_, _, _, a_lss (gd_on rfl rfl rfl rfl (by first | rfl | assumption | (simp; done))) rfl rfl rfl rfl rfl rfl, rfl, ?_⟩)
  (first | (refine ⟨_, _, _, a_pick_t (gd_none rfl) rfl rfl rfl rfl rfl ?hb rfl, rfl, ?_⟩; case hb => (first | rfl | assumption | (simp; done))) | (refine ⟨_, _, _, a_pick_f (gd_none rfl) rfl rfl rfl rfl rfl ?hb rfl, rfl, ?_⟩; case hb => (first | rfl | assumption | (simp; done))))
  show AWp _ _ _ _ _ _ _
  refine awp_cond rfl (fun hc => ?_) (fun hc => awp_skip ?_)
  · refine awp_seq (awp_region ?_)
    (refine ⟨_, _, _, a_assign (gd_none rfl) rfl rfl rfl rfl rfl, rfl, ?_⟩)
    show AWp _ _ _ _ _ _ _
    exact awp_ret (And.intro (.inr rfl) rfl)
  have hs0 : 0 ≤ smallT t 30 15 := by omega
  have hu0 : 0 ≤ smallT u 20 10 := by simpa using hc
  have hwt : t.wt ≤ 30 := by have := (small_bounds t 30 15 (by decide)).2.2 hs0; omega
  have hwu : u.wt ≤ 20 := by have := (small_bounds u 20 10 (by decide)).2.2 hu0; omega
  have hok := Tm.wt_ok (t := t) (by omega)
  have huok := Tm.wt_ok (t := u) (by omega)
  have hsize : t.size ≤ 30 := Nat.le_trans t.size_wt hwt
  have husize : u.size ≤ 20 := Nat.le_trans u.size_wt hwu
  clear hc
  show AWp _ _ _ _ _ _ _
  refine awp_seq (awp_draw (by kernel_rfl) (by kernel_rfl) ?_)
  (first | (refine ⟨_, _, _, a_load_all (gd_none rfl) rfl rfl rfl rfl rfl rfl rfl rfl rfl rfl rfl rfl, rfl, ?_⟩) | (refine ⟨_, _, _, a_load_tok (gd_none rfl) rfl rfl rfl rfl rfl rfl rfl rfl rfl rfl rfl rfl rfl, rfl, ?_⟩) | (refine ⟨_, _, _, a_load_bp (gd_none rfl) rfl rfl rfl rfl rfl rfl rfl rfl rfl rfl rfl rfl, rfl, ?_⟩) | (refine ⟨_, _, _, a_load_ad (gd_none rfl) rfl rfl rfl rfl rfl rfl rfl rfl rfl, rfl, ?_⟩) | (refine ⟨_, _, _, a_load_ptr (gd_none rfl) rfl rfl rfl rfl rfl rfl rfl rfl rfl, rfl, ?_⟩))
  (refine ⟨_, _, _, a_call (gd_none rfl) rfl rfl rfl rfl rfl (of_abs w t hok), rfl, ?_⟩)
  (first | (refine ⟨_, _, _, a_load_all (gd_none rfl) rfl rfl rfl rfl rfl rfl rfl rfl rfl rfl rfl rfl, rfl, ?_⟩) | (refine ⟨_, _, _, a_load_tok (gd_none rfl) rfl rfl rfl rfl rfl rfl rfl rfl rfl rfl rfl rfl rfl, rfl, ?_⟩) | (refine ⟨_, _, _, a_load_bp (gd_none rfl) rfl rfl rfl rfl rfl rfl rfl rfl rfl rfl rfl rfl, rfl, ?_⟩) | (refine ⟨_, _, _, a_load_ad (gd_none rfl) rfl rfl rfl rfl rfl rfl rfl rfl rfl, rfl, ?_⟩) | (refine ⟨_, _, _, a_load_ptr (gd_none rfl) rfl rfl rfl rfl rfl rfl rfl rfl rfl, rfl, ?_⟩))
  (refine ⟨_, _, _, a_call (gd_none rfl) rfl rfl rfl rfl rfl (of_abs w u huok), rfl, ?_⟩)
  (refine ⟨_, _, _, a_alloc (gd_none rfl) rfl rfl rfl rfl rfl rfl rfl rfl rfl rfl, rfl, ?_⟩)
  (refine ⟨_, _, _, a_alloc (gd_none rfl) rfl rfl rfl rfl rfl rfl rfl rfl rfl rfl, rfl, ?_⟩)
  (first | (refine ⟨_, _, _, a_store_all (gd_none rfl) rfl rfl rfl rfl rfl rfl rfl rfl rfl rfl, rfl, ?_⟩) | (refine ⟨_, _, _, a_store (gd_none rfl) rfl rfl rfl rfl rfl rfl rfl rfl rfl rfl, rfl, ?_⟩))
  (first | (refine ⟨_, _, _, a_store_all (gd_none rfl) rfl rfl rfl rfl rfl rfl rfl rfl rfl rfl, rfl, ?_⟩) | (refine ⟨_, _, _, a_store (gd_none rfl) rfl rfl rfl rfl rfl rfl rfl rfl rfl rfl, rfl, ?_⟩))
  refine ⟨by kernel_rfl, ?_⟩
  show AWp _ _ _ _ _ _ _
  obtain ⟨n, hn⟩ : ∃ n : Int, n = v.tmod 4 := ⟨_, rfl⟩
  have hn0 : 0 ≤ n ∧ n ≤ 3 := by rw [hn, Int.tmod_eq_emod_of_nonneg hv.1]; omega
  refine awp_seq (awp_region ?_)
  (refine ⟨_, _, _, a_move (gd_none rfl) rfl rfl rfl rfl rfl, rfl, ?_⟩)
  (refine ⟨_, _, _, a_conv (gd_none rfl) rfl rfl rfl rfl rfl rfl rfl (by first | rfl | (rw [IntKind.wrap_i64]; omega) | assumption), rfl, ?_⟩)
  (refine ⟨_, _, _, a_rem (gd_none rfl) rfl rfl rfl rfl rfl rfl (by first | decide | assumption), rfl, ?_⟩)
  (refine ⟨_, _, _, a_assign (gd_none rfl) rfl rfl rfl rfl rfl, rfl, ?_⟩)
  show AWp _ _ _ _ _ _ _
  refine AWp.wk (wk_sub (s' := [(7, .bp 7 0 []), (100007, .bx t.cw), (8, .bp 8 0 []), (100008, .bx u.cw), (9, .val (.i n))]) ⟨rfl, rfl, rfl, rfl, by rw [hn]; rfl, trivial⟩) ?_
  obtain ⟨S, hS⟩ : ∃ S : List Bd, S = [⟨n, u⟩, ⟨n, ⟨1, []⟩⟩] := ⟨_, rfl⟩
  have hbd : bdsOk S := fun x hx => by
    rw [hS] at hx
    rcases List.mem_cons.1 hx with rfl | hx
    · exact ⟨hur, by show u.size ≤ _; omega⟩
    · obtain rfl := List.mem_singleton.1 hx
      exact ⟨leaf_rng (by decide) (by decide), by rw [leaf_size]; decide⟩
  have hSl : S.length = 2 := by rw [hS]; rfl
  refine awp_seq (awp_region ?_)
  (refine ⟨_, _, _, a_move (gd_none rfl) rfl rfl rfl rfl rfl, rfl, ?_⟩)
  (first | (refine ⟨_, _, _, a_load_all (gd_none rfl) rfl rfl rfl rfl rfl rfl rfl rfl rfl rfl rfl rfl, rfl, ?_⟩) | (refine ⟨_, _, _, a_load_tok (gd_none rfl) rfl rfl rfl rfl rfl rfl rfl rfl rfl rfl rfl rfl rfl, rfl, ?_⟩) | (refine ⟨_, _, _, a_load_bp (gd_none rfl) rfl rfl rfl rfl rfl rfl rfl rfl rfl rfl rfl rfl, rfl, ?_⟩) | (refine ⟨_, _, _, a_load_ad (gd_none rfl) rfl rfl rfl rfl rfl rfl rfl rfl rfl, rfl, ?_⟩) | (refine ⟨_, _, _, a_load_ptr (gd_none rfl) rfl rfl rfl rfl rfl rfl rfl rfl rfl, rfl, ?_⟩))
  (refine ⟨_, _, _, a_build (gd_none rfl) rfl rfl rfl rfl rfl rfl rfl rfl rfl rfl rfl, rfl, ?_⟩)
  (refine ⟨_, _, _, a_move (gd_none rfl) rfl rfl rfl rfl rfl, rfl, ?_⟩)
  (refine ⟨_, _, _, a_build (gd_none rfl) rfl rfl rfl rfl rfl rfl rfl rfl rfl rfl rfl, rfl, ?_⟩)
  (refine ⟨_, _, _, a_build (gd_none rfl) rfl rfl rfl rfl rfl rfl rfl rfl rfl rfl rfl, rfl, ?_⟩)
  (refine ⟨_, _, _, a_bslice (gd_none rfl) rfl rfl rfl rfl rfl rfl rfl rfl rfl rfl rfl rfl rfl, rfl, ?_⟩)
  (refine ⟨_, _, _, a_assign (gd_none rfl) rfl rfl rfl rfl rfl, rfl, ?_⟩)
  show AWp _ _ _ _ _ _ _
  refine AWp.wk (wk_sub (s' := [(7, .bp 7 0 []), (100007, .bx t.cw), (8, .bp 8 0 []), (100008, .bx u.cw), (9, .val (.i n)), (10, .val (.lst (S.map Bd.cv)))]) ⟨rfl, rfl, rfl, rfl, rfl, by rw [hS]; rfl, trivial⟩) ?_
  refine awp_seq (awp_region ?_)
  (refine ⟨_, _, _, a_move (gd_none rfl) rfl rfl rfl rfl rfl, rfl, ?_⟩)
  (first | (refine ⟨_, _, _, a_load_all (gd_none rfl) rfl rfl rfl rfl rfl rfl rfl rfl rfl rfl rfl rfl, rfl, ?_⟩) | (refine ⟨_, _, _, a_load_tok (gd_none rfl) rfl rfl rfl rfl rfl rfl rfl rfl rfl rfl rfl rfl rfl, rfl, ?_⟩) | (refine ⟨_, _, _, a_load_bp (gd_none rfl) rfl rfl rfl rfl rfl rfl rfl rfl rfl rfl rfl rfl, rfl, ?_⟩) | (refine ⟨_, _, _, a_load_ad (gd_none rfl) rfl rfl rfl rfl rfl rfl rfl rfl rfl, rfl, ?_⟩) | (refine ⟨_, _, _, a_load_ptr (gd_none rfl) rfl rfl rfl rfl rfl rfl rfl rfl rfl, rfl, ?_⟩))
  (refine ⟨_, _, _, a_call (gd_none rfl) rfl rfl rfl rfl rfl (apply_abs w S t (by omega) hbd hr hok), rfl, ?_⟩)
  (refine ⟨_, _, _, a_alloc (gd_none rfl) rfl rfl rfl rfl rfl rfl rfl rfl rfl rfl, rfl, ?_⟩)
  (first | (refine ⟨_, _, _, a_store_all (gd_none rfl) rfl rfl rfl rfl rfl rfl rfl rfl rfl rfl, rfl, ?_⟩) | (refine ⟨_, _, _, a_store (gd_none rfl) rfl rfl rfl rfl rfl rfl rfl rfl rfl rfl, rfl, ?_⟩))
  show AWp _ _ _ _ _ _ _
  obtain ⟨z, hz⟩ : ∃ z, z = repT (imgB S) t := ⟨_, rfl⟩
  have hzr : z.rng := by rw [hz]; exact repT_rng hr fun v h1 h2 => (imgB_ok hbd h1 h2).1
  have hzs : (z.size : Int) = t.size + (cntF (-1 - n) t.flat : Int) * ((u.size : Int) - 1) := by rw [hz, hS]; exact size_two n hn0.1 u t
  have hcl : cntF (-1 - n) t.flat ≤ 30 := Nat.le_trans (cntF_le _ _) (Nat.le_trans (by unfold Tm.size at hsize; exact hsize) (Nat.le_refl _))
  obtain ⟨k, hk⟩ : ∃ k, k = cntF (-1 - n) t.flat := ⟨_, rfl⟩
  have hun : 1 ≤ u.size := by rw [Tm.size_eq]; omega
  have hprod : (k : Int) * ((u.size : Int) - 1) ≤ 30 * 20 := by
    refine Int.le_trans (Int.mul_le_mul_of_nonneg_right (b := 30) (by omega) (by omega)) ?_
    exact Int.mul_le_mul_of_nonneg_left (by omega) (by decide)
  have hprod0 : 0 ≤ (k : Int) * ((u.size : Int) - 1) := Int.mul_nonneg (by omega) (by omega)
  rw [← hk] at hzs
  have hzsz : z.size ≤ 1000 := by omega
  rw [← hz]
  refine AWp.wk (wk_sub (s' := [(7, .bp 7 0 []), (100007, .bx t.cw), (8, .bp 8 0 []), (100008, .bx u.cw), (9, .val (.i n)), (10, .val (.lst (S.map Bd.cv))), (11, .bp 11 0 []), (100011, .bx z.cw)]) ⟨rfl, rfl, rfl, rfl, rfl, rfl, rfl, rfl, trivial⟩) ?_
  refine awp_seq (awp_region ?_)
  (first | (refine ⟨_, _, _, a_load_all (gd_none rfl) rfl rfl rfl rfl rfl rfl rfl rfl rfl rfl rfl rfl, rfl, ?_⟩) | (refine ⟨_, _, _, a_load_tok (gd_none rfl) rfl rfl rfl rfl rfl rfl rfl rfl rfl rfl rfl rfl rfl, rfl, ?_⟩) | (refine ⟨_, _, _, a_load_bp (gd_none rfl) rfl rfl rfl rfl rfl rfl rfl rfl rfl rfl rfl rfl, rfl, ?_⟩) | (refine ⟨_, _, _, a_load_ad (gd_none rfl) rfl rfl rfl rfl rfl rfl rfl rfl rfl, rfl, ?_⟩) | (refine ⟨_, _, _, a_load_ptr (gd_none rfl) rfl rfl rfl rfl rfl rfl rfl rfl rfl, rfl, ?_⟩))
  (refine ⟨_, _, _, a_move (gd_none rfl) rfl rfl rfl rfl rfl, rfl, ?_⟩)
  (refine ⟨_, _, _, a_sub (gd_none rfl) rfl rfl rfl rfl rfl rfl (by first | omega | (simp only [List.length_map, List.length_append, List.length_cons, List.length_nil]; omega) | (simp; omega)), rfl, ?_⟩)
  (refine ⟨_, _, _, a_call (gd_none rfl) rfl rfl rfl rfl rfl (count_abs w (-1 - n) hr (by omega)), rfl, ?_⟩)
  (refine ⟨_, _, _, a_assign (gd_none rfl) rfl rfl rfl rfl rfl, rfl, ?_⟩)
  show AWp _ _ _ _ _ _ _
  refine AWp.wk (wk_sub (s' := [(7, .bp 7 0 []), (100007, .bx t.cw), (8, .bp 8 0 []), (100008, .bx u.cw), (10, .val (.lst (S.map Bd.cv))), (11, .bp 11 0 []), (100011, .bx z.cw), (12, .val (.i k))]) ⟨rfl, rfl, rfl, rfl, rfl, rfl, rfl, by rw [hk]; rfl, trivial⟩) ?_
  have g1 : decide ((z.size : Int) = (t.size : Int) + (k : Int) * ((u.size : Int) - 1)) = true := by simpa using hzs
  have c1 := size_abs w hzr (by omega)
  have c2 := size_abs w hr (by omega)
  have c3 := size_abs w hur (by omega)
  have hb0 : bdsOk [] := fun x hx => by cases hx
  have c4 := apply_abs w [] t (by simp) hb0 hr hok
  have e4 : repT (imgB []) t = t.strip := rep_id t
  rw [e4] at c4
  have c5 := same_abs w (Tm.strip_rng hr) hr
  have e5 : sameT t.strip t = true := by rw [sameT_iff, Tm.strip_strip]
  rw [e5] at c5
  have c7 := norm_abs w S (by omega) hbd
  have hnl : (normF S).length ≤ 2 := by
    unfold normF
    rw [List.length_map]
    exact Nat.le_trans (List.length_filter_le _ _) (Nat.le_trans (firstsF_len S) (by omega))
  have hnb : bdsOk (normF S) := fun x hx => by
    unfold normF at hx
    obtain ⟨b, hb, rfl⟩ := List.mem_map.1 hx
    have := hbd b (firstsF_mem (List.mem_filter.1 hb).1)
    exact ⟨Tm.strip_rng this.1, by show b.t.strip.size ≤ _; rw [Tm.strip_size]; exact this.2⟩
  have c8 := apply_abs w (normF S) t (by omega) hnb hr hok
  rw [rep_norm, ← hz] at c8
  have c9 := same_abs w hzr hzr
  have e9 : sameT z z = true := by rw [sameT_iff]
  rw [e9] at c9
  by_cases hk0 : 0 < k
  · have g2 : decide ((k : Int) > 0) = true := by simpa using hk0
    refine awp_seq (awp_draw (by kernel_rfl) (by kernel_rfl) ?_)
    (first | (refine ⟨_, _, _, a_load_all (gd_none rfl) rfl rfl rfl rfl rfl rfl rfl rfl rfl rfl rfl rfl, rfl, ?_⟩) | (refine ⟨_, _, _, a_load_tok (gd_none rfl) rfl rfl rfl rfl rfl rfl rfl rfl rfl rfl rfl rfl rfl, rfl, ?_⟩) | (refine ⟨_, _, _, a_load_bp (gd_none rfl) rfl rfl rfl rfl rfl rfl rfl rfl rfl rfl rfl rfl, rfl, ?_⟩) | (refine ⟨_, _, _, a_load_ad (gd_none rfl) rfl rfl rfl rfl rfl rfl rfl rfl rfl, rfl, ?_⟩) | (refine ⟨_, _, _, a_load_ptr (gd_none rfl) rfl rfl rfl rfl rfl rfl rfl rfl rfl, rfl, ?_⟩))
    (refine ⟨_, _, _, a_call (gd_none rfl) rfl rfl rfl rfl rfl (c1), rfl, ?_⟩)
    (first | (refine ⟨_, _, _, a_load_all (gd_none rfl) rfl rfl rfl rfl rfl rfl rfl rfl rfl rfl rfl rfl, rfl, ?_⟩) | (refine ⟨_, _, _, a_load_tok (gd_none rfl) rfl rfl rfl rfl rfl rfl rfl rfl rfl rfl rfl rfl rfl, rfl, ?_⟩) | (refine ⟨_, _, _, a_load_bp (gd_none rfl) rfl rfl rfl rfl rfl rfl rfl rfl rfl rfl rfl rfl, rfl, ?_⟩) | (refine ⟨_, _, _, a_load_ad (gd_none rfl) rfl rfl rfl rfl rfl rfl rfl rfl rfl, rfl, ?_⟩) | (refine ⟨_, _, _, a_load_ptr (gd_none rfl) rfl rfl rfl rfl rfl rfl rfl rfl rfl, rfl, ?_⟩))
    (refine ⟨_, _, _, a_call (gd_none rfl) rfl rfl rfl rfl rfl (c2), rfl, ?_⟩)
    (refine ⟨_, _, _, a_move (gd_none rfl) rfl rfl rfl rfl rfl, rfl, ?_⟩)
    (first | (refine ⟨_, _, _, a_load_all (gd_none rfl) rfl rfl rfl rfl rfl rfl rfl rfl rfl rfl rfl rfl, rfl, ?_⟩) | (refine ⟨_, _, _, a_load_tok (gd_none rfl) rfl rfl rfl rfl rfl rfl rfl rfl rfl rfl rfl rfl rfl, rfl, ?_⟩) | (refine ⟨_, _, _, a_load_bp (gd_none rfl) rfl rfl rfl rfl rfl rfl rfl rfl rfl rfl rfl rfl, rfl, ?_⟩) | (refine ⟨_, _, _, a_load_ad (gd_none rfl) rfl rfl rfl rfl rfl rfl rfl rfl rfl, rfl, ?_⟩) | (refine ⟨_, _, _, a_load_ptr (gd_none rfl) rfl rfl rfl rfl rfl rfl rfl rfl rfl, rfl, ?_⟩))
    (refine ⟨_, _, _, a_call (gd_none rfl) rfl rfl rfl rfl rfl (c3), rfl, ?_⟩)
    (refine ⟨_, _, _, a_sub (gd_none rfl) rfl rfl rfl rfl rfl rfl (by first | omega | (simp only [List.length_map, List.length_append, List.length_cons, List.length_nil]; omega) | (simp; omega)), rfl, ?_⟩)
    (refine ⟨_, _, _, a_mul (gd_none rfl) rfl rfl rfl rfl rfl rfl (by first | omega | (simp only [List.length_map, List.length_append, List.length_cons, List.length_nil]; omega) | (simp; omega)), rfl, ?_⟩)
    (refine ⟨_, _, _, a_add (gd_none rfl) rfl rfl rfl rfl rfl rfl (by first | omega | (simp only [List.length_map, List.length_append, List.length_cons, List.length_nil]; omega) | (simp; omega)), rfl, ?_⟩)
    (first | (refine ⟨_, _, _, a_eql (gd_none rfl) rfl rfl rfl rfl rfl rfl, rfl, ?_⟩) | (refine ⟨_, _, _, a_beq (gd_none rfl) rfl rfl rfl rfl rfl rfl rfl, rfl, ?_⟩))
    (refine ⟨_, _, _, a_move (gd_none rfl) rfl rfl rfl rfl rfl, rfl, ?_⟩)
    (first | (refine ⟨_, _, _, a_load_all (gd_on rfl rfl rfl rfl (by first | rfl | assumption | (simp; done))) rfl rfl rfl rfl rfl rfl rfl rfl rfl rfl rfl rfl, rfl, ?_⟩) | (refine ⟨_, _, _, a_load_tok (gd_on rfl rfl rfl rfl (by first | rfl | assumption | (simp; done))) rfl rfl rfl rfl rfl rfl rfl rfl rfl rfl rfl rfl rfl, rfl, ?_⟩) | (refine ⟨_, _, _, a_load_bp (gd_on rfl rfl rfl rfl (by first | rfl | assumption | (simp; done))) rfl rfl rfl rfl rfl rfl rfl rfl rfl rfl rfl rfl, rfl, ?_⟩) | (refine ⟨_, _, _, a_load_ad (gd_on rfl rfl rfl rfl (by first | rfl | assumption | (simp; done))) rfl rfl rfl rfl rfl rfl rfl rfl rfl, rfl, ?_⟩) | (refine ⟨_, _, _, a_load_ptr (gd_on rfl rfl rfl rfl (by first | rfl | assumption | (simp; done))) rfl rfl rfl rfl rfl rfl rfl rfl rfl, rfl, ?_⟩))
    (refine ⟨_, _, _, a_call (gd_on rfl rfl rfl rfl (by first | rfl | assumption | (simp; done))) rfl rfl rfl rfl rfl (c4), rfl, ?_⟩)
    (first | (refine ⟨_, _, _, a_load_all (gd_on rfl rfl rfl rfl (by first | rfl | assumption | (simp; done))) rfl rfl rfl rfl rfl rfl rfl rfl rfl rfl rfl rfl, rfl, ?_⟩) | (refine ⟨_, _, _, a_load_tok (gd_on rfl rfl rfl rfl (by first | rfl | assumption | (simp; done))) rfl rfl rfl rfl rfl rfl rfl rfl rfl rfl rfl rfl rfl, rfl, ?_⟩) | (refine ⟨_, _, _, a_load_bp (gd_on rfl rfl rfl rfl (by first | rfl | assumption | (simp; done))) rfl rfl rfl rfl rfl rfl rfl rfl rfl rfl rfl rfl, rfl, ?_⟩) | (refine ⟨_, _, _, a_load_ad (gd_on rfl rfl rfl rfl (by first | rfl | assumption | (simp; done))) rfl rfl rfl rfl rfl rfl rfl rfl rfl, rfl, ?_⟩) | (refine ⟨_, _, _, a_load_ptr (gd_on rfl rfl rfl rfl (by first | rfl | assumption | (simp; done))) rfl rfl rfl rfl rfl rfl rfl rfl rfl, rfl, ?_⟩))
    (refine ⟨_, _, _, a_call (gd_on rfl rfl rfl rfl (by first | rfl | assumption | (simp; done))) rfl rfl rfl rfl rfl (c5), rfl, ?_⟩)
    (first | (refine ⟨_, _, _, a_pick_t (gd_none rfl) rfl rfl rfl rfl rfl ?hb rfl, rfl, ?_⟩; case hb => (first | rfl | assumption | (simp; done))) | (refine ⟨_, _, _, a_pick_f (gd_none rfl) rfl rfl rfl rfl rfl ?hb rfl, rfl, ?_⟩; case hb => (first | rfl | assumption | (simp; done))))
    (refine ⟨_, _, _, a_move (gd_none rfl) rfl rfl rfl rfl rfl, rfl, ?_⟩)
    (refine ⟨_, _, _, a_move (gd_on rfl rfl rfl rfl (by first | rfl | assumption | (simp; done))) rfl rfl rfl rfl rfl, rfl, ?_⟩)
    (refine ⟨_, _, _, a_gtr (gd_on rfl rfl rfl rfl (by first | rfl | assumption | (simp; done))) rfl rfl rfl rfl rfl rfl, rfl, ?_⟩)
    (refine ⟨_, _, _, a_move (gd_on rfl rfl rfl rfl (by first | rfl | assumption | (simp; done))) rfl rfl rfl rfl rfl, rfl, ?_⟩)
    (refine ⟨_, _, _, a_off (go_off rfl rfl rfl rfl (by first | rfl | assumption | (simp; done) | (simp [*]; done))) rfl rfl rfl, rfl, ?_⟩)
    (refine ⟨_, _, _, a_off (go_off rfl rfl rfl rfl (by first | rfl | assumption | (simp; done) | (simp [*]; done))) rfl rfl rfl, rfl, ?_⟩)
    (refine ⟨_, _, _, a_off (go_off rfl rfl rfl rfl (by first | rfl | assumption | (simp; done) | (simp [*]; done))) rfl rfl rfl, rfl, ?_⟩)
    (first | (refine ⟨_, _, _, a_pick_t (gd_on rfl rfl rfl rfl (by first | rfl | assumption | (simp; done))) rfl rfl rfl rfl rfl ?hb rfl, rfl, ?_⟩; case hb => (first | rfl | assumption | (simp; done))) | (refine ⟨_, _, _, a_pick_f (gd_on rfl rfl rfl rfl (by first | rfl | assumption | (simp; done))) rfl rfl rfl rfl rfl ?hb rfl, rfl, ?_⟩; case hb => (first | rfl | assumption | (simp; done))))
    (first | (refine ⟨_, _, _, a_pick_t (gd_none rfl) rfl rfl rfl rfl rfl ?hb rfl, rfl, ?_⟩; case hb => (first | rfl | assumption | (simp; done))) | (refine ⟨_, _, _, a_pick_f (gd_none rfl) rfl rfl rfl rfl rfl ?hb rfl, rfl, ?_⟩; case hb => (first | rfl | assumption | (simp; done))))
    (refine ⟨_, _, _, a_move (gd_none rfl) rfl rfl rfl rfl rfl, rfl, ?_⟩)
    (refine ⟨_, _, _, a_move (gd_on rfl rfl rfl rfl (by first | rfl | assumption | (simp; done))) rfl rfl rfl rfl rfl, rfl, ?_⟩)
    (refine ⟨_, _, _, a_call (gd_on rfl rfl rfl rfl (by first | rfl | assumption | (simp; done))) rfl rfl rfl rfl rfl (c7), rfl, ?_⟩)
    (first | (refine ⟨_, _, _, a_load_all (gd_on rfl rfl rfl rfl (by first | rfl | assumption | (simp; done))) rfl rfl rfl rfl rfl rfl rfl rfl rfl rfl rfl rfl, rfl, ?_⟩) | (refine ⟨_, _, _, a_load_tok (gd_on rfl rfl rfl rfl (by first | rfl | assumption | (simp; done))) rfl rfl rfl rfl rfl rfl rfl rfl rfl rfl rfl rfl rfl, rfl, ?_⟩) | (refine ⟨_, _, _, a_load_bp (gd_on rfl rfl rfl rfl (by first | rfl | assumption | (simp; done))) rfl rfl rfl rfl rfl rfl rfl rfl rfl rfl rfl rfl, rfl, ?_⟩) | (refine ⟨_, _, _, a_load_ad (gd_on rfl rfl rfl rfl (by first | rfl | assumption | (simp; done))) rfl rfl rfl rfl rfl rfl rfl rfl rfl, rfl, ?_⟩) | (refine ⟨_, _, _, a_load_ptr (gd_on rfl rfl rfl rfl (by first | rfl | assumption | (simp; done))) rfl rfl rfl rfl rfl rfl rfl rfl rfl, rfl, ?_⟩))
    (refine ⟨_, _, _, a_call (gd_on rfl rfl rfl rfl (by first | rfl | assumption | (simp; done))) rfl rfl rfl rfl rfl (c8), rfl, ?_⟩)
    (first | (refine ⟨_, _, _, a_load_all (gd_on rfl rfl rfl rfl (by first | rfl | assumption | (simp; done))) rfl rfl rfl rfl rfl rfl rfl rfl rfl rfl rfl rfl, rfl, ?_⟩) | (refine ⟨_, _, _, a_load_tok (gd_on rfl rfl rfl rfl (by first | rfl | assumption | (simp; done))) rfl rfl rfl rfl rfl rfl rfl rfl rfl rfl rfl rfl rfl, rfl, ?_⟩) | (refine ⟨_, _, _, a_load_bp (gd_on rfl rfl rfl rfl (by first | rfl | assumption | (simp; done))) rfl rfl rfl rfl rfl rfl rfl rfl rfl rfl rfl rfl, rfl, ?_⟩) | (refine ⟨_, _, _, a_load_ad (gd_on rfl rfl rfl rfl (by first | rfl | assumption | (simp; done))) rfl rfl rfl rfl rfl rfl rfl rfl rfl, rfl, ?_⟩) | (refine ⟨_, _, _, a_load_ptr (gd_on rfl rfl rfl rfl (by first | rfl | assumption | (simp; done))) rfl rfl rfl rfl rfl rfl rfl rfl rfl, rfl, ?_⟩))
    (refine ⟨_, _, _, a_call (gd_on rfl rfl rfl rfl (by first | rfl | assumption | (simp; done))) rfl rfl rfl rfl rfl (c9), rfl, ?_⟩)
    (first | (refine ⟨_, _, _, a_pick_t (gd_none rfl) rfl rfl rfl rfl rfl ?hb rfl, rfl, ?_⟩; case hb => (first | rfl | assumption | (simp; done))) | (refine ⟨_, _, _, a_pick_f (gd_none rfl) rfl rfl rfl rfl rfl ?hb rfl, rfl, ?_⟩; case hb => (first | rfl | assumption | (simp; done))))
    (refine ⟨_, _, _, a_assign (gd_none rfl) rfl rfl rfl rfl rfl, rfl, ?_⟩)
    refine ⟨by kernel_rfl, ?_⟩
    show AWp _ _ _ _ _ _ _
    exact awp_ret (And.intro (.inr rfl) rfl)
  · have g2 : decide ((k : Int) > 0) = false := by simpa using hk0
    have c6 := same_abs w hzr hr
    have e6 : sameT z t = true := by
      rw [sameT_iff, hz, rep_bare, ← rep_id t]
      refine rep_congr fun v hv => ?_
      rw [hS, img_two, if_neg]
      intro e
      have : 0 < cntF (-1 - n) t.flat := by
        rw [cnt_vs n hn0.1]
        exact List.length_pos_of_mem (List.mem_filter.2 ⟨hv, by simpa using e⟩)
      omega
    rw [e6] at c6
    refine awp_seq (awp_draw (by kernel_rfl) (by kernel_rfl) ?_)
    (first | (refine ⟨_, _, _, a_load_all (gd_none rfl) rfl rfl rfl rfl rfl rfl rfl rfl rfl rfl rfl rfl, rfl, ?_⟩) | (refine ⟨_, _, _, a_load_tok (gd_none rfl) rfl rfl rfl rfl rfl rfl rfl rfl rfl rfl rfl rfl rfl, rfl, ?_⟩) | (refine ⟨_, _, _, a_load_bp (gd_none rfl) rfl rfl rfl rfl rfl rfl rfl rfl rfl rfl rfl rfl, rfl, ?_⟩) | (refine ⟨_, _, _, a_load_ad (gd_none rfl) rfl rfl rfl rfl rfl rfl rfl rfl rfl, rfl, ?_⟩) | (refine ⟨_, _, _, a_load_ptr (gd_none rfl) rfl rfl rfl rfl rfl rfl rfl rfl rfl, rfl, ?_⟩))
    (refine ⟨_, _, _, a_call (gd_none rfl) rfl rfl rfl rfl rfl (c1), rfl, ?_⟩)
    (first | (refine ⟨_, _, _, a_load_all (gd_none rfl) rfl rfl rfl rfl rfl rfl rfl rfl rfl rfl rfl rfl, rfl, ?_⟩) | (refine ⟨_, _, _, a_load_tok (gd_none rfl) rfl rfl rfl rfl rfl rfl rfl rfl rfl rfl rfl rfl rfl, rfl, ?_⟩) | (refine ⟨_, _, _, a_load_bp (gd_none rfl) rfl rfl rfl rfl rfl rfl rfl rfl rfl rfl rfl rfl, rfl, ?_⟩) | (refine ⟨_, _, _, a_load_ad (gd_none rfl) rfl rfl rfl rfl rfl rfl rfl rfl rfl, rfl, ?_⟩) | (refine ⟨_, _, _, a_load_ptr (gd_none rfl) rfl rfl rfl rfl rfl rfl rfl rfl rfl, rfl, ?_⟩))
    (refine ⟨_, _, _, a_call (gd_none rfl) rfl rfl rfl rfl rfl (c2), rfl, ?_⟩)
    (refine ⟨_, _, _, a_move (gd_none rfl) rfl rfl rfl rfl rfl, rfl, ?_⟩)
    (first | (refine ⟨_, _, _, a_load_all (gd_none rfl) rfl rfl rfl rfl rfl rfl rfl rfl rfl rfl rfl rfl, rfl, ?_⟩) | (refine ⟨_, _, _, a_load_tok (gd_none rfl) rfl rfl rfl rfl rfl rfl rfl rfl rfl rfl rfl rfl rfl, rfl, ?_⟩) | (refine ⟨_, _, _, a_load_bp (gd_none rfl) rfl rfl rfl rfl rfl rfl rfl rfl rfl rfl rfl rfl, rfl, ?_⟩) | (refine ⟨_, _, _, a_load_ad (gd_none rfl) rfl rfl rfl rfl rfl rfl rfl rfl rfl, rfl, ?_⟩) | (refine ⟨_, _, _, a_load_ptr (gd_none rfl) rfl rfl rfl rfl rfl rfl rfl rfl rfl, rfl, ?_⟩))
    (refine ⟨_, _, _, a_call (gd_none rfl) rfl rfl rfl rfl rfl (c3), rfl, ?_⟩)
    (refine ⟨_, _, _, a_sub (gd_none rfl) rfl rfl rfl rfl rfl rfl (by first | omega | (simp only [List.length_map, List.length_append, List.length_cons, List.length_nil]; omega) | (simp; omega)), rfl, ?_⟩)
    (refine ⟨_, _, _, a_mul (gd_none rfl) rfl rfl rfl rfl rfl rfl (by first | omega | (simp only [List.length_map, List.length_append, List.length_cons, List.length_nil]; omega) | (simp; omega)), rfl, ?_⟩)
    (refine ⟨_, _, _, a_add (gd_none rfl) rfl rfl rfl rfl rfl rfl (by first | omega | (simp only [List.length_map, List.length_append, List.length_cons, List.length_nil]; omega) | (simp; omega)), rfl, ?_⟩)
    (first | (refine ⟨_, _, _, a_eql (gd_none rfl) rfl rfl rfl rfl rfl rfl, rfl, ?_⟩) | (refine ⟨_, _, _, a_beq (gd_none rfl) rfl rfl rfl rfl rfl rfl rfl, rfl, ?_⟩))
    (refine ⟨_, _, _, a_move (gd_none rfl) rfl rfl rfl rfl rfl, rfl, ?_⟩)
    (first | (refine ⟨_, _, _, a_load_all (gd_on rfl rfl rfl rfl (by first | rfl | assumption | (simp; done))) rfl rfl rfl rfl rfl rfl rfl rfl rfl rfl rfl rfl, rfl, ?_⟩) | (refine ⟨_, _, _, a_load_tok (gd_on rfl rfl rfl rfl (by first | rfl | assumption | (simp; done))) rfl rfl rfl rfl rfl rfl rfl rfl rfl rfl rfl rfl rfl, rfl, ?_⟩) | (refine ⟨_, _, _, a_load_bp (gd_on rfl rfl rfl rfl (by first | rfl | assumption | (simp; done))) rfl rfl rfl rfl rfl rfl rfl rfl rfl rfl rfl rfl, rfl, ?_⟩) | (refine ⟨_, _, _, a_load_ad (gd_on rfl rfl rfl rfl (by first | rfl | assumption | (simp; done))) rfl rfl rfl rfl rfl rfl rfl rfl rfl, rfl, ?_⟩) | (refine ⟨_, _, _, a_load_ptr (gd_on rfl rfl rfl rfl (by first | rfl | assumption | (simp; done))) rfl rfl rfl rfl rfl rfl rfl rfl rfl, rfl, ?_⟩))
    (refine ⟨_, _, _, a_call (gd_on rfl rfl rfl rfl (by first | rfl | assumption | (simp; done))) rfl rfl rfl rfl rfl (c4), rfl, ?_⟩)
    (first | (refine ⟨_, _, _, a_load_all (gd_on rfl rfl rfl rfl (by first | rfl | assumption | (simp; done))) rfl rfl rfl rfl rfl rfl rfl rfl rfl rfl rfl rfl, rfl, ?_⟩) | (refine ⟨_, _, _, a_load_tok (gd_on rfl rfl rfl rfl (by first | rfl | assumption | (simp; done))) rfl rfl rfl rfl rfl rfl rfl rfl rfl rfl rfl rfl rfl, rfl, ?_⟩) | (refine ⟨_, _, _, a_load_bp (gd_on rfl rfl rfl rfl (by first | rfl | assumption | (simp; done))) rfl rfl rfl rfl rfl rfl rfl rfl rfl rfl rfl rfl, rfl, ?_⟩) | (refine ⟨_, _, _, a_load_ad (gd_on rfl rfl rfl rfl (by first | rfl | assumption | (simp; done))) rfl rfl rfl rfl rfl rfl rfl rfl rfl, rfl, ?_⟩) | (refine ⟨_, _, _, a_load_ptr (gd_on rfl rfl rfl rfl (by first | rfl | assumption | (simp; done))) rfl rfl rfl rfl rfl rfl rfl rfl rfl, rfl, ?_⟩))
    (refine ⟨_, _, _, a_call (gd_on rfl rfl rfl rfl (by first | rfl | assumption | (simp; done))) rfl rfl rfl rfl rfl (c5), rfl, ?_⟩)
    (first | (refine ⟨_, _, _, a_pick_t (gd_none rfl) rfl rfl rfl rfl rfl ?hb rfl, rfl, ?_⟩; case hb => (first | rfl | assumption | (simp; done))) | (refine ⟨_, _, _, a_pick_f (gd_none rfl) rfl rfl rfl rfl rfl ?hb rfl, rfl, ?_⟩; case hb => (first | rfl | assumption | (simp; done))))
    (refine ⟨_, _, _, a_move (gd_none rfl) rfl rfl rfl rfl rfl, rfl, ?_⟩)
    (refine ⟨_, _, _, a_move (gd_on rfl rfl rfl rfl (by first | rfl | assumption | (simp; done))) rfl rfl rfl rfl rfl, rfl, ?_⟩)
    (refine ⟨_, _, _, a_gtr (gd_on rfl rfl rfl rfl (by first | rfl | assumption | (simp; done))) rfl rfl rfl rfl rfl rfl, rfl, ?_⟩)
    (refine ⟨_, _, _, a_move (gd_on rfl rfl rfl rfl (by first | rfl | assumption | (simp; done))) rfl rfl rfl rfl rfl, rfl, ?_⟩)
    (first | (refine ⟨_, _, _, a_load_all (gd_on rfl rfl rfl rfl (by first | rfl | assumption | (simp; done))) rfl rfl rfl rfl rfl rfl rfl rfl rfl rfl rfl rfl, rfl, ?_⟩) | (refine ⟨_, _, _, a_load_tok (gd_on rfl rfl rfl rfl (by first | rfl | assumption | (simp; done))) rfl rfl rfl rfl rfl rfl rfl rfl rfl rfl rfl rfl rfl, rfl, ?_⟩) | (refine ⟨_, _, _, a_load_bp (gd_on rfl rfl rfl rfl (by first | rfl | assumption | (simp; done))) rfl rfl rfl rfl rfl rfl rfl rfl rfl rfl rfl rfl, rfl, ?_⟩) | (refine ⟨_, _, _, a_load_ad (gd_on rfl rfl rfl rfl (by first | rfl | assumption | (simp; done))) rfl rfl rfl rfl rfl rfl rfl rfl rfl, rfl, ?_⟩) | (refine ⟨_, _, _, a_load_ptr (gd_on rfl rfl rfl rfl (by first | rfl | assumption | (simp; done))) rfl rfl rfl rfl rfl rfl rfl rfl rfl, rfl, ?_⟩))
    (first | (refine ⟨_, _, _, a_load_all (gd_on rfl rfl rfl rfl (by first | rfl | assumption | (simp; done))) rfl rfl rfl rfl rfl rfl rfl rfl rfl rfl rfl rfl, rfl, ?_⟩) | (refine ⟨_, _, _, a_load_tok (gd_on rfl rfl rfl rfl (by first | rfl | assumption | (simp; done))) rfl rfl rfl rfl rfl rfl rfl rfl rfl rfl rfl rfl rfl, rfl, ?_⟩) | (refine ⟨_, _, _, a_load_bp (gd_on rfl rfl rfl rfl (by first | rfl | assumption | (simp; done))) rfl rfl rfl rfl rfl rfl rfl rfl rfl rfl rfl rfl, rfl, ?_⟩) | (refine ⟨_, _, _, a_load_ad (gd_on rfl rfl rfl rfl (by first | rfl | assumption | (simp; done))) rfl rfl rfl rfl rfl rfl rfl rfl rfl, rfl, ?_⟩) | (refine ⟨_, _, _, a_load_ptr (gd_on rfl rfl rfl rfl (by first | rfl | assumption | (simp; done))) rfl rfl rfl rfl rfl rfl rfl rfl rfl, rfl, ?_⟩))
    (refine ⟨_, _, _, a_call (gd_on rfl rfl rfl rfl (by first | rfl | assumption | (simp; done))) rfl rfl rfl rfl rfl (c6), rfl, ?_⟩)
    (first | (refine ⟨_, _, _, a_pick_t (gd_on rfl rfl rfl rfl (by first | rfl | assumption | (simp; done))) rfl rfl rfl rfl rfl ?hb rfl, rfl, ?_⟩; case hb => (first | rfl | assumption | (simp; done))) | (refine ⟨_, _, _, a_pick_f (gd_on rfl rfl rfl rfl (by first | rfl | assumption | (simp; done))) rfl rfl rfl rfl rfl ?hb rfl, rfl, ?_⟩; case hb => (first | rfl | assumption | (simp; done))))
    (first | (refine ⟨_, _, _, a_pick_t (gd_none rfl) rfl rfl rfl rfl rfl ?hb rfl, rfl, ?_⟩; case hb => (first | rfl | assumption | (simp; done))) | (refine ⟨_, _, _, a_pick_f (gd_none rfl) rfl rfl rfl rfl rfl ?hb rfl, rfl, ?_⟩; case hb => (first | rfl | assumption | (simp; done))))
    (refine ⟨_, _, _, a_move (gd_none rfl) rfl rfl rfl rfl rfl, rfl, ?_⟩)
    (refine ⟨_, _, _, a_move (gd_on rfl rfl rfl rfl (by first | rfl | assumption | (simp; done))) rfl rfl rfl rfl rfl, rfl, ?_⟩)
    (refine ⟨_, _, _, a_call (gd_on rfl rfl rfl rfl (by first | rfl | assumption | (simp; done))) rfl rfl rfl rfl rfl (c7), rfl, ?_⟩)
    (first | (refine ⟨_, _, _, a_load_all (gd_on rfl rfl rfl rfl (by first | rfl | assumption | (simp; done))) rfl rfl rfl rfl rfl rfl rfl rfl rfl rfl rfl rfl, rfl, ?_⟩) | (refine ⟨_, _, _, a_load_tok (gd_on rfl rfl rfl rfl (by first | rfl | assumption | (simp; done))) rfl rfl rfl rfl rfl rfl rfl rfl rfl rfl rfl rfl rfl, rfl, ?_⟩) | (refine ⟨_, _, _, a_load_bp (gd_on rfl rfl rfl rfl (by first | rfl | assumption | (simp; done))) rfl rfl rfl rfl rfl rfl rfl rfl rfl rfl rfl rfl, rfl, ?_⟩) | (refine ⟨_, _, _, a_load_ad (gd_on rfl rfl rfl rfl (by first | rfl | assumption | (simp; done))) rfl rfl rfl rfl rfl rfl rfl rfl rfl, rfl, ?_⟩) | (refine ⟨_, _, _, a_load_ptr (gd_on rfl rfl rfl rfl (by first | rfl | assumption | (simp; done))) rfl rfl rfl rfl rfl rfl rfl rfl rfl, rfl, ?_⟩))
    (refine ⟨_, _, _, a_call (gd_on rfl rfl rfl rfl (by first | rfl | assumption | (simp; done))) rfl rfl rfl rfl rfl (c8), rfl, ?_⟩)
    (first | (refine ⟨_, _, _, a_load_all (gd_on rfl rfl rfl rfl (by first | rfl | assumption | (simp; done))) rfl rfl rfl rfl rfl rfl rfl rfl rfl rfl rfl rfl, rfl, ?_⟩) | (refine ⟨_, _, _, a_load_tok (gd_on rfl rfl rfl rfl (by first | rfl | assumption | (simp; done))) rfl rfl rfl rfl rfl rfl rfl rfl rfl rfl rfl rfl rfl, rfl, ?_⟩) | (refine ⟨_, _, _, a_load_bp (gd_on rfl rfl rfl rfl (by first | rfl | assumption | (simp; done))) rfl rfl rfl rfl rfl rfl rfl rfl rfl rfl rfl rfl, rfl, ?_⟩) | (refine ⟨_, _, _, a_load_ad (gd_on rfl rfl rfl rfl (by first | rfl | assumption | (simp; done))) rfl rfl rfl rfl rfl rfl rfl rfl rfl, rfl, ?_⟩) | (refine ⟨_, _, _, a_load_ptr (gd_on rfl rfl rfl rfl (by first | rfl | assumption | (simp; done))) rfl rfl rfl rfl rfl rfl rfl rfl rfl, rfl, ?_⟩))
    (refine ⟨_, _, _, a_call (gd_on rfl rfl rfl rfl (by first | rfl | assumption | (simp; done))) rfl rfl rfl rfl rfl (c9), rfl, ?_⟩)
    (first | (refine ⟨_, _, _, a_pick_t (gd_none rfl) rfl rfl rfl rfl rfl ?hb rfl, rfl, ?_⟩; case hb => (first | rfl | assumption | (simp; done))) | (refine ⟨_, _, _, a_pick_f (gd_none rfl) rfl rfl rfl rfl rfl ?hb rfl, rfl, ?_⟩; case hb => (first | rfl | assumption | (simp; done))))
    (refine ⟨_, _, _, a_assign (gd_none rfl) rfl rfl rfl rfl rfl, rfl, ?_⟩)
    refine ⟨by kernel_rfl, ?_⟩
    show AWp _ _ _ _ _ _ _
    exact awp_ret (And.intro (.inr rfl) rfl)
end Go.Proofs.Ytmdhefepaolhcaa
