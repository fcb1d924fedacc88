/-
  The law TermPuts.
-/
import Derived.Test.YtffecopfikbbbaaTmPlD
import Derived.Test.YtffecopfikbbbaaTmAb6
import Derived.Test.YtffecopfikbbbaaAbOf
namespace Go.Proofs.Ytffecopfikbbbaa
open Go.RowKit
set_option linter.unusedVariables false
set_option linter.unusedSimpArgs false
set_option maxRecDepth 100000

theorem rows_size (l : List (List Int)) : ∀ c ∈ l.map (fun p => CV.lst (p.map CV.i)), c.size = 1 := by
  intro c hc
  obtain ⟨p, _, rfl⟩ := List.mem_map.1 hc
  rfl
theorem rows_at {l : List (List Int)} {i : Nat} {p : List Int} (h : l[i]? = some p) : (l.map (fun p => CV.lst (p.map CV.i)))[i]? = some (.lst (p.map CV.i)) := by rw [List.getElem?_map, h]; rfl
-- 
set_option maxHeartbeats 4000000 in
theorem termPuts_abs (W : World) (a u : Tm) (n : Nat) (hra : a.rng) (hru : u.rng) (hn : n ≤ 255) : AFun Try.prog W 5 [a.cw, u.cw, .sc (.int .u8 n)] (.val (.b true)) := by
  refine afun_of (rs := [.b true]) Try.func5 Try.ntmps5 rfl rfl rfl rfl ?_
  intro w U hW
  refine awp_seq (awp_region ?_)
  (refine ⟨_, _, _, a_box (gd_none rfl) rfl rfl rfl rfl rfl, rfl, ?_⟩)
  (refine ⟨_, _, _, a_box (gd_none rfl) rfl rfl rfl rfl rfl, rfl, ?_⟩)
  (refine ⟨_, _, _, a_assign (gd_none rfl) rfl rfl rfl rfl rfl, rfl, ?_⟩)
  show AWp _ _ _ _ _ _ _
  refine awp_seq (awp_seq (awp_region ?_))
  (refine ⟨_, _, _, a_call (gd_none rfl) rfl rfl rfl rfl rfl (alive6_abs w), rfl, ?_⟩)
  (refine ⟨_, _, _, a_not (gd_none rfl) rfl rfl rfl rfl rfl, rfl, ?_⟩)
  show AWp _ _ _ _ _ _ _
  refine awp_cond rfl (fun hc => by cases hc) (fun _ => awp_skip ?_)
  show AWp _ _ _ _ _ _ _
  refine awp_seq (awp_seq (awp_region ?_))
  (first | (refine ⟨_, _, _, a_load_all (gd_none rfl) rfl rfl rfl rfl rfl rfl rfl rfl rfl rfl rfl rfl, rfl, ?_⟩) | (refine ⟨_, _, _, a_load_tok (gd_none rfl) rfl rfl rfl rfl rfl rfl rfl rfl rfl rfl rfl rfl rfl, rfl, ?_⟩) | (refine ⟨_, _, _, a_load_bp (gd_none rfl) rfl rfl rfl rfl rfl rfl rfl rfl rfl rfl rfl rfl, rfl, ?_⟩) | (refine ⟨_, _, _, a_load_ad (gd_none rfl) rfl rfl rfl rfl rfl rfl rfl rfl rfl, rfl, ?_⟩) | (refine ⟨_, _, _, a_load_ptr (gd_none rfl) rfl rfl rfl rfl rfl rfl rfl rfl rfl, rfl, ?_⟩))
  (first | (refine ⟨_, _, _, a_load_all (gd_none rfl) rfl rfl rfl rfl rfl rfl rfl rfl rfl rfl rfl rfl, rfl, ?_⟩) | (refine ⟨_, _, _, a_load_tok (gd_none rfl) rfl rfl rfl rfl rfl rfl rfl rfl rfl rfl rfl rfl rfl, rfl, ?_⟩) | (refine ⟨_, _, _, a_load_bp (gd_none rfl) rfl rfl rfl rfl rfl rfl rfl rfl rfl rfl rfl rfl, rfl, ?_⟩) | (refine ⟨_, _, _, a_load_ad (gd_none rfl) rfl rfl rfl rfl rfl rfl rfl rfl rfl, rfl, ?_⟩) | (refine ⟨_, _, _, a_load_ptr (gd_none rfl) rfl rfl rfl rfl rfl rfl rfl rfl rfl, rfl, ?_⟩))
  (refine ⟨_, _, _, a_bslice (gd_none rfl) rfl rfl rfl rfl rfl rfl rfl rfl rfl rfl rfl rfl rfl, rfl, ?_⟩)
  (refine ⟨_, _, _, a_call (gd_none rfl) rfl rfl rfl rfl rfl (fine2_abs w hra hru), rfl, ?_⟩)
  (refine ⟨_, _, _, a_not (gd_none rfl) rfl rfl rfl rfl rfl, rfl, ?_⟩)
  show AWp _ _ _ _ _ _ _
  refine awp_cond rfl (fun hc => ?_) (fun hc => awp_skip ?_)
  · refine awp_seq (awp_region ?_)
    (refine ⟨_, _, _, a_assign (gd_none rfl) rfl rfl rfl rfl rfl, rfl, ?_⟩)
    show AWp _ _ _ _ _ _ _
    exact awp_ret (And.intro (.inr rfl) rfl)
  have hfine : fineB [a, u] = true := by simpa using hc
  clear hc
  obtain ⟨hsa, hwa, hoa, hza⟩ := fine_of hfine (t := a) (by simp)
  obtain ⟨hsu, hwu, hou, hzu⟩ := fine_of hfine (t := u) (by simp)
  show AWp _ _ _ _ _ _ _
  refine awp_seq (awp_draw (by kernel_rfl) (by kernel_rfl) ?_)
  (first | (refine ⟨_, _, _, a_load_all (gd_none rfl) rfl rfl rfl rfl rfl rfl rfl rfl rfl rfl rfl rfl, rfl, ?_⟩) | (refine ⟨_, _, _, a_load_tok (gd_none rfl) rfl rfl rfl rfl rfl rfl rfl rfl rfl rfl rfl rfl rfl, rfl, ?_⟩) | (refine ⟨_, _, _, a_load_bp (gd_none rfl) rfl rfl rfl rfl rfl rfl rfl rfl rfl rfl rfl rfl, rfl, ?_⟩) | (refine ⟨_, _, _, a_load_ad (gd_none rfl) rfl rfl rfl rfl rfl rfl rfl rfl rfl, rfl, ?_⟩) | (refine ⟨_, _, _, a_load_ptr (gd_none rfl) rfl rfl rfl rfl rfl rfl rfl rfl rfl, rfl, ?_⟩))
  (refine ⟨_, _, _, a_call (gd_none rfl) rfl rfl rfl rfl rfl (of_abs w a hoa), rfl, ?_⟩)
  (first | (refine ⟨_, _, _, a_load_all (gd_none rfl) rfl rfl rfl rfl rfl rfl rfl rfl rfl rfl rfl rfl, rfl, ?_⟩) | (refine ⟨_, _, _, a_load_tok (gd_none rfl) rfl rfl rfl rfl rfl rfl rfl rfl rfl rfl rfl rfl rfl, rfl, ?_⟩) | (refine ⟨_, _, _, a_load_bp (gd_none rfl) rfl rfl rfl rfl rfl rfl rfl rfl rfl rfl rfl rfl, rfl, ?_⟩) | (refine ⟨_, _, _, a_load_ad (gd_none rfl) rfl rfl rfl rfl rfl rfl rfl rfl rfl, rfl, ?_⟩) | (refine ⟨_, _, _, a_load_ptr (gd_none rfl) rfl rfl rfl rfl rfl rfl rfl rfl rfl, rfl, ?_⟩))
  (refine ⟨_, _, _, a_call (gd_none rfl) rfl rfl rfl rfl rfl (of_abs w u hou), rfl, ?_⟩)
  (refine ⟨_, _, _, a_alloc (gd_none rfl) rfl rfl rfl rfl rfl rfl rfl rfl rfl rfl, rfl, ?_⟩)
  (refine ⟨_, _, _, a_alloc (gd_none rfl) rfl rfl rfl rfl rfl rfl rfl rfl rfl rfl, rfl, ?_⟩)
  (first | (refine ⟨_, _, _, a_store_all (gd_none rfl) rfl rfl rfl rfl rfl rfl rfl rfl rfl rfl, rfl, ?_⟩) | (refine ⟨_, _, _, a_store (gd_none rfl) rfl rfl rfl rfl rfl rfl rfl rfl rfl rfl, rfl, ?_⟩))
  (first | (refine ⟨_, _, _, a_store_all (gd_none rfl) rfl rfl rfl rfl rfl rfl rfl rfl rfl rfl, rfl, ?_⟩) | (refine ⟨_, _, _, a_store (gd_none rfl) rfl rfl rfl rfl rfl rfl rfl rfl rfl rfl, rfl, ?_⟩))
  refine ⟨by kernel_rfl, ?_⟩
  show AWp _ _ _ _ _ _ _
  refine AWp.wk (wk_sub (s' := [(2, .val (.sc (.int .u8 n))), (7, .bp 7 0 []), (100007, .bx a.cw), (8, .bp 8 0 []), (100008, .bx u.cw)]) ⟨rfl, rfl, rfl, rfl, rfl, trivial⟩) ?_
  refine awp_seq (awp_region ?_)
  (first | (refine ⟨_, _, _, a_load_all (gd_none rfl) rfl rfl rfl rfl rfl rfl rfl rfl rfl rfl rfl rfl, rfl, ?_⟩) | (refine ⟨_, _, _, a_load_tok (gd_none rfl) rfl rfl rfl rfl rfl rfl rfl rfl rfl rfl rfl rfl rfl, rfl, ?_⟩) | (refine ⟨_, _, _, a_load_bp (gd_none rfl) rfl rfl rfl rfl rfl rfl rfl rfl rfl rfl rfl rfl, rfl, ?_⟩) | (refine ⟨_, _, _, a_load_ad (gd_none rfl) rfl rfl rfl rfl rfl rfl rfl rfl rfl, rfl, ?_⟩) | (refine ⟨_, _, _, a_load_ptr (gd_none rfl) rfl rfl rfl rfl rfl rfl rfl rfl rfl, rfl, ?_⟩))
  (refine ⟨_, _, _, a_call (gd_none rfl) rfl rfl rfl rfl rfl (places_abs w hra (by omega)), rfl, ?_⟩)
  (refine ⟨_, _, _, a_assign (gd_none rfl) rfl rfl rfl rfl rfl, rfl, ?_⟩)
  show AWp _ _ _ _ _ _ _
  obtain ⟨ps, hps⟩ : ∃ ps, ps = a.places := ⟨_, rfl⟩
  have hpl : ps.length = a.size := by rw [hps, Tm.places_len]
  have hpa : ∀ p ∈ ps, (∃ s, atP p a = some s) ∧ p.length < a.size := by rw [hps]; exact places_at a
  have hsz1 : 0 < a.size := by rw [Tm.size_eq]; omega
  rw [← hps]
  have hrz := rows_size ps
  obtain ⟨R, hR⟩ : ∃ R, R = ps.map (fun p => CV.lst (p.map CV.i)) := ⟨_, rfl⟩
  have hRl : R.length = ps.length := by rw [hR, List.length_map]
  rw [← hR] at hrz ⊢
  have hne : (R.length : Int) ≠ 0 := by omega
  obtain ⟨place, hplace⟩ : ∃ p, ps[n % R.length]? = some p := ⟨ps[n % R.length]'(by rw [← hRl]; exact Nat.mod_lt _ (by omega)), List.getElem?_eq_getElem _⟩
  have hplace' : R[n % R.length]? = some (.lst (place.map CV.i)) := by rw [hR] at hplace ⊢; exact rows_at hplace
  have hpm := List.mem_of_getElem? hplace
  obtain ⟨⟨was, hwas⟩, hplen⟩ := hpa place hpm
  refine awp_seq (awp_region ?_)
  (refine ⟨_, _, _, a_move (gd_none rfl) rfl rfl rfl rfl rfl, rfl, ?_⟩)
  (refine ⟨_, _, _, a_move (gd_none rfl) rfl rfl rfl rfl rfl, rfl, ?_⟩)
  (refine ⟨_, _, _, a_conv (gd_none rfl) rfl rfl rfl rfl rfl rfl rfl (by first | rfl | (rw [IntKind.wrap_i64]; omega) | assumption), rfl, ?_⟩)
  (refine ⟨_, _, _, a_move (gd_none rfl) rfl rfl rfl rfl rfl, rfl, ?_⟩)
  (refine ⟨_, _, _, a_len (gd_none rfl) rfl rfl rfl rfl rfl rfl rfl, rfl, ?_⟩)
  (refine ⟨_, _, _, a_rem (gd_none rfl) rfl rfl rfl rfl rfl rfl (by first | decide | assumption), rfl, ?_⟩)
  (refine ⟨_, _, _, a_index (j := n % R.length) (gd_none rfl) rfl rfl rfl rfl rfl rfl rfl rfl rfl (hplace') rfl (hrz), rfl, ?_⟩)
  (first | (refine ⟨_, _, _, a_load_all (gd_none rfl) rfl rfl rfl rfl rfl rfl rfl rfl rfl rfl rfl rfl, rfl, ?_⟩) | (refine ⟨_, _, _, a_load_tok (gd_none rfl) rfl rfl rfl rfl rfl rfl rfl rfl rfl rfl rfl rfl rfl, rfl, ?_⟩) | (refine ⟨_, _, _, a_load_bp (gd_none rfl) rfl rfl rfl rfl rfl rfl rfl rfl rfl rfl rfl rfl, rfl, ?_⟩) | (refine ⟨_, _, _, a_load_ad (gd_none rfl) rfl rfl rfl rfl rfl rfl rfl rfl rfl, rfl, ?_⟩) | (refine ⟨_, _, _, a_load_ptr (gd_none rfl) rfl rfl rfl rfl rfl rfl rfl rfl rfl, rfl, ?_⟩))
  (refine ⟨_, _, _, a_assign (gd_none rfl) rfl rfl rfl rfl rfl, rfl, ?_⟩)
  show AWp _ _ _ _ _ _ _
  obtain ⟨z, hz, hzr, hgot, hback, hsize⟩ := putP_facts u hru place a was hra hwas
  obtain ⟨hwr, hws⟩ := atP_ok hwas hra
  have hwsr := Tm.strip_rng hwr
  have hwss := Tm.strip_size was
  have a1 := at_abs w a place (by omega) hra (by omega)
  rw [hwas] at a1
  have p1 := put_abs w u hru (by omega) place a (by omega) hra (by omega)
  rw [hz] at p1
  have a2 := at_abs w z place (by omega) hzr (by omega)
  rw [hgot] at a2
  have p2 := put_abs w was.strip hwsr (by omega) place z (by omega) hzr (by omega)
  rw [hback] at p2
  refine AWp.wk (wk_sub (s' := [(7, .bp 7 0 []), (100007, .bx a.cw), (8, .bp 8 0 []), (100008, .bx u.cw), (9, .val (.lst R)), (10, .val (.lst (place.map CV.i)))]) ⟨rfl, rfl, rfl, rfl, rfl, rfl, trivial⟩) ?_
  refine awp_seq (awp_region ?_)
  (first | (refine ⟨_, _, _, a_load_all (gd_none rfl) rfl rfl rfl rfl rfl rfl rfl rfl rfl rfl rfl rfl, rfl, ?_⟩) | (refine ⟨_, _, _, a_load_tok (gd_none rfl) rfl rfl rfl rfl rfl rfl rfl rfl rfl rfl rfl rfl rfl, rfl, ?_⟩) | (refine ⟨_, _, _, a_load_bp (gd_none rfl) rfl rfl rfl rfl rfl rfl rfl rfl rfl rfl rfl rfl, rfl, ?_⟩) | (refine ⟨_, _, _, a_load_ad (gd_none rfl) rfl rfl rfl rfl rfl rfl rfl rfl rfl, rfl, ?_⟩) | (refine ⟨_, _, _, a_load_ptr (gd_none rfl) rfl rfl rfl rfl rfl rfl rfl rfl rfl, rfl, ?_⟩))
  (refine ⟨_, _, _, a_move (gd_none rfl) rfl rfl rfl rfl rfl, rfl, ?_⟩)
  (refine ⟨_, _, _, a_call (gd_none rfl) rfl rfl rfl rfl rfl (a1), rfl, ?_⟩)
  (refine ⟨_, _, _, a_move (gd_none rfl) rfl rfl rfl rfl rfl, rfl, ?_⟩)
  (refine ⟨_, _, _, a_extract (gd_none rfl) rfl rfl rfl rfl rfl rfl, rfl, ?_⟩)
  (refine ⟨_, _, _, a_extract (gd_none rfl) rfl rfl rfl rfl rfl rfl, rfl, ?_⟩)
  (refine ⟨_, _, _, a_alloc (gd_none rfl) rfl rfl rfl rfl rfl rfl rfl rfl rfl rfl, rfl, ?_⟩)
  (first | (refine ⟨_, _, _, a_store_all (gd_none rfl) rfl rfl rfl rfl rfl rfl rfl rfl rfl rfl, rfl, ?_⟩) | (refine ⟨_, _, _, a_store (gd_none rfl) rfl rfl rfl rfl rfl rfl rfl rfl rfl rfl, rfl, ?_⟩))
  (refine ⟨_, _, _, a_assign (gd_none rfl) rfl rfl rfl rfl rfl, rfl, ?_⟩)
  show AWp _ _ _ _ _ _ _
  refine awp_seq (awp_region ?_)
  (first | (refine ⟨_, _, _, a_load_all (gd_none rfl) rfl rfl rfl rfl rfl rfl rfl rfl rfl rfl rfl rfl, rfl, ?_⟩) | (refine ⟨_, _, _, a_load_tok (gd_none rfl) rfl rfl rfl rfl rfl rfl rfl rfl rfl rfl rfl rfl rfl, rfl, ?_⟩) | (refine ⟨_, _, _, a_load_bp (gd_none rfl) rfl rfl rfl rfl rfl rfl rfl rfl rfl rfl rfl rfl, rfl, ?_⟩) | (refine ⟨_, _, _, a_load_ad (gd_none rfl) rfl rfl rfl rfl rfl rfl rfl rfl rfl, rfl, ?_⟩) | (refine ⟨_, _, _, a_load_ptr (gd_none rfl) rfl rfl rfl rfl rfl rfl rfl rfl rfl, rfl, ?_⟩))
  (refine ⟨_, _, _, a_move (gd_none rfl) rfl rfl rfl rfl rfl, rfl, ?_⟩)
  (first | (refine ⟨_, _, _, a_load_all (gd_none rfl) rfl rfl rfl rfl rfl rfl rfl rfl rfl rfl rfl rfl, rfl, ?_⟩) | (refine ⟨_, _, _, a_load_tok (gd_none rfl) rfl rfl rfl rfl rfl rfl rfl rfl rfl rfl rfl rfl rfl, rfl, ?_⟩) | (refine ⟨_, _, _, a_load_bp (gd_none rfl) rfl rfl rfl rfl rfl rfl rfl rfl rfl rfl rfl rfl, rfl, ?_⟩) | (refine ⟨_, _, _, a_load_ad (gd_none rfl) rfl rfl rfl rfl rfl rfl rfl rfl rfl, rfl, ?_⟩) | (refine ⟨_, _, _, a_load_ptr (gd_none rfl) rfl rfl rfl rfl rfl rfl rfl rfl rfl, rfl, ?_⟩))
  (refine ⟨_, _, _, a_call (gd_none rfl) rfl rfl rfl rfl rfl (p1), rfl, ?_⟩)
  (refine ⟨_, _, _, a_move (gd_none rfl) rfl rfl rfl rfl rfl, rfl, ?_⟩)
  (refine ⟨_, _, _, a_extract (gd_none rfl) rfl rfl rfl rfl rfl rfl, rfl, ?_⟩)
  (refine ⟨_, _, _, a_extract (gd_none rfl) rfl rfl rfl rfl rfl rfl, rfl, ?_⟩)
  (refine ⟨_, _, _, a_alloc (gd_none rfl) rfl rfl rfl rfl rfl rfl rfl rfl rfl rfl, rfl, ?_⟩)
  (first | (refine ⟨_, _, _, a_store_all (gd_none rfl) rfl rfl rfl rfl rfl rfl rfl rfl rfl rfl, rfl, ?_⟩) | (refine ⟨_, _, _, a_store (gd_none rfl) rfl rfl rfl rfl rfl rfl rfl rfl rfl rfl, rfl, ?_⟩))
  (refine ⟨_, _, _, a_assign (gd_none rfl) rfl rfl rfl rfl rfl, rfl, ?_⟩)
  show AWp _ _ _ _ _ _ _
  refine awp_seq (awp_region ?_)
  (first | (refine ⟨_, _, _, a_load_all (gd_none rfl) rfl rfl rfl rfl rfl rfl rfl rfl rfl rfl rfl rfl, rfl, ?_⟩) | (refine ⟨_, _, _, a_load_tok (gd_none rfl) rfl rfl rfl rfl rfl rfl rfl rfl rfl rfl rfl rfl rfl, rfl, ?_⟩) | (refine ⟨_, _, _, a_load_bp (gd_none rfl) rfl rfl rfl rfl rfl rfl rfl rfl rfl rfl rfl rfl, rfl, ?_⟩) | (refine ⟨_, _, _, a_load_ad (gd_none rfl) rfl rfl rfl rfl rfl rfl rfl rfl rfl, rfl, ?_⟩) | (refine ⟨_, _, _, a_load_ptr (gd_none rfl) rfl rfl rfl rfl rfl rfl rfl rfl rfl, rfl, ?_⟩))
  (refine ⟨_, _, _, a_move (gd_none rfl) rfl rfl rfl rfl rfl, rfl, ?_⟩)
  (refine ⟨_, _, _, a_call (gd_none rfl) rfl rfl rfl rfl rfl (a2), rfl, ?_⟩)
  (refine ⟨_, _, _, a_move (gd_none rfl) rfl rfl rfl rfl rfl, rfl, ?_⟩)
  (refine ⟨_, _, _, a_extract (gd_none rfl) rfl rfl rfl rfl rfl rfl, rfl, ?_⟩)
  (refine ⟨_, _, _, a_extract (gd_none rfl) rfl rfl rfl rfl rfl rfl, rfl, ?_⟩)
  (refine ⟨_, _, _, a_alloc (gd_none rfl) rfl rfl rfl rfl rfl rfl rfl rfl rfl rfl, rfl, ?_⟩)
  (first | (refine ⟨_, _, _, a_store_all (gd_none rfl) rfl rfl rfl rfl rfl rfl rfl rfl rfl rfl, rfl, ?_⟩) | (refine ⟨_, _, _, a_store (gd_none rfl) rfl rfl rfl rfl rfl rfl rfl rfl rfl rfl, rfl, ?_⟩))
  (refine ⟨_, _, _, a_assign (gd_none rfl) rfl rfl rfl rfl rfl, rfl, ?_⟩)
  show AWp _ _ _ _ _ _ _
  refine awp_seq (awp_region ?_)
  (first | (refine ⟨_, _, _, a_load_all (gd_none rfl) rfl rfl rfl rfl rfl rfl rfl rfl rfl rfl rfl rfl, rfl, ?_⟩) | (refine ⟨_, _, _, a_load_tok (gd_none rfl) rfl rfl rfl rfl rfl rfl rfl rfl rfl rfl rfl rfl rfl, rfl, ?_⟩) | (refine ⟨_, _, _, a_load_bp (gd_none rfl) rfl rfl rfl rfl rfl rfl rfl rfl rfl rfl rfl rfl, rfl, ?_⟩) | (refine ⟨_, _, _, a_load_ad (gd_none rfl) rfl rfl rfl rfl rfl rfl rfl rfl rfl, rfl, ?_⟩) | (refine ⟨_, _, _, a_load_ptr (gd_none rfl) rfl rfl rfl rfl rfl rfl rfl rfl rfl, rfl, ?_⟩))
  (refine ⟨_, _, _, a_move (gd_none rfl) rfl rfl rfl rfl rfl, rfl, ?_⟩)
  (first | (refine ⟨_, _, _, a_load_all (gd_none rfl) rfl rfl rfl rfl rfl rfl rfl rfl rfl rfl rfl rfl, rfl, ?_⟩) | (refine ⟨_, _, _, a_load_tok (gd_none rfl) rfl rfl rfl rfl rfl rfl rfl rfl rfl rfl rfl rfl rfl, rfl, ?_⟩) | (refine ⟨_, _, _, a_load_bp (gd_none rfl) rfl rfl rfl rfl rfl rfl rfl rfl rfl rfl rfl rfl, rfl, ?_⟩) | (refine ⟨_, _, _, a_load_ad (gd_none rfl) rfl rfl rfl rfl rfl rfl rfl rfl rfl, rfl, ?_⟩) | (refine ⟨_, _, _, a_load_ptr (gd_none rfl) rfl rfl rfl rfl rfl rfl rfl rfl rfl, rfl, ?_⟩))
  (refine ⟨_, _, _, a_call (gd_none rfl) rfl rfl rfl rfl rfl (p2), rfl, ?_⟩)
  (refine ⟨_, _, _, a_move (gd_none rfl) rfl rfl rfl rfl rfl, rfl, ?_⟩)
  (refine ⟨_, _, _, a_extract (gd_none rfl) rfl rfl rfl rfl rfl rfl, rfl, ?_⟩)
  (refine ⟨_, _, _, a_extract (gd_none rfl) rfl rfl rfl rfl rfl rfl, rfl, ?_⟩)
  (refine ⟨_, _, _, a_alloc (gd_none rfl) rfl rfl rfl rfl rfl rfl rfl rfl rfl rfl, rfl, ?_⟩)
  (first | (refine ⟨_, _, _, a_store_all (gd_none rfl) rfl rfl rfl rfl rfl rfl rfl rfl rfl rfl, rfl, ?_⟩) | (refine ⟨_, _, _, a_store (gd_none rfl) rfl rfl rfl rfl rfl rfl rfl rfl rfl rfl, rfl, ?_⟩))
  (refine ⟨_, _, _, a_assign (gd_none rfl) rfl rfl rfl rfl rfl, rfl, ?_⟩)
  show AWp _ _ _ _ _ _ _
  refine AWp.wk (wk_sub (s' := [(7, .bp 7 0 []), (100007, .bx a.cw), (8, .bp 8 0 []), (100008, .bx u.cw), (9, .val (.lst R)), (10, .val (.lst (place.map CV.i))), (11, .bp 11 0 []), (100011, .bx was.strip.cw), (13, .bp 13 0 []), (100013, .bx z.cw), (14, .val (.b true)), (15, .bp 15 0 []), (100015, .bx u.strip.strip.cw), (16, .val (.b true)), (17, .bp 17 0 []), (100017, .bx a.strip.cw), (18, .val (.b true))]) ⟨rfl, rfl, rfl, rfl, rfl, rfl, rfl, rfl, rfl, rfl, rfl, rfl, rfl, rfl, rfl, rfl, rfl, trivial⟩) ?_
  have s1 := same_abs w (Tm.strip_rng (Tm.strip_rng hru)) hru
  rw [show sameT u.strip.strip u = true by rw [sameT_iff, Tm.strip_strip, Tm.strip_strip]] at s1
  have s2 := same_abs w (Tm.strip_rng hra) hra
  rw [show sameT a.strip a = true by rw [sameT_iff, Tm.strip_strip]] at s2
  have z1 := size_abs w hzr (by omega)
  have z2 := size_abs w hra (by omega)
  have z3 := size_abs w hwsr (by omega)
  have z4 := size_abs w hru (by omega)
  have hneq : decide ((z.size : Int) ≠ (a.size : Int) - (was.strip.size : Int) + (u.size : Int)) = false := by
    rw [decide_eq_false_iff_not]
    omega
  refine awp_seq (awp_seq (awp_draw (by kernel_rfl) (by kernel_rfl) ?_))
  (refine ⟨_, _, _, a_move (gd_none rfl) rfl rfl rfl rfl rfl, rfl, ?_⟩)
  (refine ⟨_, _, _, a_not (gd_none rfl) rfl rfl rfl rfl rfl, rfl, ?_⟩)
  (refine ⟨_, _, _, a_move (gd_none rfl) rfl rfl rfl rfl rfl, rfl, ?_⟩)
  (refine ⟨_, _, _, a_move (gd_on rfl rfl rfl rfl (by first | rfl | assumption | (simp; done))) rfl rfl rfl rfl rfl, rfl, ?_⟩)
  (refine ⟨_, _, _, a_not (gd_on rfl rfl rfl rfl (by first | rfl | assumption | (simp; done))) rfl rfl rfl rfl rfl, rfl, ?_⟩)
  (first | (refine ⟨_, _, _, a_pick_t (gd_none rfl) rfl rfl rfl rfl rfl ?hb rfl, rfl, ?_⟩; case hb => (first | rfl | assumption | (simp; done))) | (refine ⟨_, _, _, a_pick_f (gd_none rfl) rfl rfl rfl rfl rfl ?hb rfl, rfl, ?_⟩; case hb => (first | rfl | assumption | (simp; done))))
  (refine ⟨_, _, _, a_move (gd_none rfl) rfl rfl rfl rfl rfl, rfl, ?_⟩)
  (refine ⟨_, _, _, a_move (gd_on rfl rfl rfl rfl (by first | rfl | assumption | (simp; done))) rfl rfl rfl rfl rfl, rfl, ?_⟩)
  (refine ⟨_, _, _, a_not (gd_on rfl rfl rfl rfl (by first | rfl | assumption | (simp; done))) rfl rfl rfl rfl rfl, rfl, ?_⟩)
  (first | (refine ⟨_, _, _, a_pick_t (gd_none rfl) rfl rfl rfl rfl rfl ?hb rfl, rfl, ?_⟩; case hb => (first | rfl | assumption | (simp; done))) | (refine ⟨_, _, _, a_pick_f (gd_none rfl) rfl rfl rfl rfl rfl ?hb rfl, rfl, ?_⟩; case hb => (first | rfl | assumption | (simp; done))))
  (refine ⟨_, _, _, a_move (gd_none rfl) rfl rfl rfl rfl rfl, rfl, ?_⟩)
  (first | (refine ⟨_, _, _, a_load_all (gd_on rfl rfl rfl rfl (by first | rfl | assumption | (simp; done))) rfl rfl rfl rfl rfl rfl rfl rfl rfl rfl rfl rfl, rfl, ?_⟩) | (refine ⟨_, _, _, a_load_tok (gd_on rfl rfl rfl rfl (by first | rfl | assumption | (simp; done))) rfl rfl rfl rfl rfl rfl rfl rfl rfl rfl rfl rfl rfl, rfl, ?_⟩) | (refine ⟨_, _, _, a_load_bp (gd_on rfl rfl rfl rfl (by first | rfl | assumption | (simp; done))) rfl rfl rfl rfl rfl rfl rfl rfl rfl rfl rfl rfl, rfl, ?_⟩) | (refine ⟨_, _, _, a_load_ad (gd_on rfl rfl rfl rfl (by first | rfl | assumption | (simp; done))) rfl rfl rfl rfl rfl rfl rfl rfl rfl, rfl, ?_⟩) | (refine ⟨_, _, _, a_load_ptr (gd_on rfl rfl rfl rfl (by first | rfl | assumption | (simp; done))) rfl rfl rfl rfl rfl rfl rfl rfl rfl, rfl, ?_⟩))
  (first | (refine ⟨_, _, _, a_load_all (gd_on rfl rfl rfl rfl (by first | rfl | assumption | (simp; done))) rfl rfl rfl rfl rfl rfl rfl rfl rfl rfl rfl rfl, rfl, ?_⟩) | (refine ⟨_, _, _, a_load_tok (gd_on rfl rfl rfl rfl (by first | rfl | assumption | (simp; done))) rfl rfl rfl rfl rfl rfl rfl rfl rfl rfl rfl rfl rfl, rfl, ?_⟩) | (refine ⟨_, _, _, a_load_bp (gd_on rfl rfl rfl rfl (by first | rfl | assumption | (simp; done))) rfl rfl rfl rfl rfl rfl rfl rfl rfl rfl rfl rfl, rfl, ?_⟩) | (refine ⟨_, _, _, a_load_ad (gd_on rfl rfl rfl rfl (by first | rfl | assumption | (simp; done))) rfl rfl rfl rfl rfl rfl rfl rfl rfl, rfl, ?_⟩) | (refine ⟨_, _, _, a_load_ptr (gd_on rfl rfl rfl rfl (by first | rfl | assumption | (simp; done))) rfl rfl rfl rfl rfl rfl rfl rfl rfl, rfl, ?_⟩))
  (refine ⟨_, _, _, a_call (gd_on rfl rfl rfl rfl (by first | rfl | assumption | (simp; done))) rfl rfl rfl rfl rfl (s1), rfl, ?_⟩)
  (refine ⟨_, _, _, a_not (gd_on rfl rfl rfl rfl (by first | rfl | assumption | (simp; done))) rfl rfl rfl rfl rfl, rfl, ?_⟩)
  (first | (refine ⟨_, _, _, a_pick_t (gd_none rfl) rfl rfl rfl rfl rfl ?hb rfl, rfl, ?_⟩; case hb => (first | rfl | assumption | (simp; done))) | (refine ⟨_, _, _, a_pick_f (gd_none rfl) rfl rfl rfl rfl rfl ?hb rfl, rfl, ?_⟩; case hb => (first | rfl | assumption | (simp; done))))
  (refine ⟨_, _, _, a_move (gd_none rfl) rfl rfl rfl rfl rfl, rfl, ?_⟩)
  (first | (refine ⟨_, _, _, a_load_all (gd_on rfl rfl rfl rfl (by first | rfl | assumption | (simp; done))) rfl rfl rfl rfl rfl rfl rfl rfl rfl rfl rfl rfl, rfl, ?_⟩) | (refine ⟨_, _, _, a_load_tok (gd_on rfl rfl rfl rfl (by first | rfl | assumption | (simp; done))) rfl rfl rfl rfl rfl rfl rfl rfl rfl rfl rfl rfl rfl, rfl, ?_⟩) | (refine ⟨_, _, _, a_load_bp (gd_on rfl rfl rfl rfl (by first | rfl | assumption | (simp; done))) rfl rfl rfl rfl rfl rfl rfl rfl rfl rfl rfl rfl, rfl, ?_⟩) | (refine ⟨_, _, _, a_load_ad (gd_on rfl rfl rfl rfl (by first | rfl | assumption | (simp; done))) rfl rfl rfl rfl rfl rfl rfl rfl rfl, rfl, ?_⟩) | (refine ⟨_, _, _, a_load_ptr (gd_on rfl rfl rfl rfl (by first | rfl | assumption | (simp; done))) rfl rfl rfl rfl rfl rfl rfl rfl rfl, rfl, ?_⟩))
  (first | (refine ⟨_, _, _, a_load_all (gd_on rfl rfl rfl rfl (by first | rfl | assumption | (simp; done))) rfl rfl rfl rfl rfl rfl rfl rfl rfl rfl rfl rfl, rfl, ?_⟩) | (refine ⟨_, _, _, a_load_tok (gd_on rfl rfl rfl rfl (by first | rfl | assumption | (simp; done))) rfl rfl rfl rfl rfl rfl rfl rfl rfl rfl rfl rfl rfl, rfl, ?_⟩) | (refine ⟨_, _, _, a_load_bp (gd_on rfl rfl rfl rfl (by first | rfl | assumption | (simp; done))) rfl rfl rfl rfl rfl rfl rfl rfl rfl rfl rfl rfl, rfl, ?_⟩) | (refine ⟨_, _, _, a_load_ad (gd_on rfl rfl rfl rfl (by first | rfl | assumption | (simp; done))) rfl rfl rfl rfl rfl rfl rfl rfl rfl, rfl, ?_⟩) | (refine ⟨_, _, _, a_load_ptr (gd_on rfl rfl rfl rfl (by first | rfl | assumption | (simp; done))) rfl rfl rfl rfl rfl rfl rfl rfl rfl, rfl, ?_⟩))
  (refine ⟨_, _, _, a_call (gd_on rfl rfl rfl rfl (by first | rfl | assumption | (simp; done))) rfl rfl rfl rfl rfl (s2), rfl, ?_⟩)
  (refine ⟨_, _, _, a_not (gd_on rfl rfl rfl rfl (by first | rfl | assumption | (simp; done))) rfl rfl rfl rfl rfl, rfl, ?_⟩)
  (first | (refine ⟨_, _, _, a_pick_t (gd_none rfl) rfl rfl rfl rfl rfl ?hb rfl, rfl, ?_⟩; case hb => (first | rfl | assumption | (simp; done))) | (refine ⟨_, _, _, a_pick_f (gd_none rfl) rfl rfl rfl rfl rfl ?hb rfl, rfl, ?_⟩; case hb => (first | rfl | assumption | (simp; done))))
  (refine ⟨_, _, _, a_move (gd_none rfl) rfl rfl rfl rfl rfl, rfl, ?_⟩)
  (first | (refine ⟨_, _, _, a_load_all (gd_on rfl rfl rfl rfl (by first | rfl | assumption | (simp; done))) rfl rfl rfl rfl rfl rfl rfl rfl rfl rfl rfl rfl, rfl, ?_⟩) | (refine ⟨_, _, _, a_load_tok (gd_on rfl rfl rfl rfl (by first | rfl | assumption | (simp; done))) rfl rfl rfl rfl rfl rfl rfl rfl rfl rfl rfl rfl rfl, rfl, ?_⟩) | (refine ⟨_, _, _, a_load_bp (gd_on rfl rfl rfl rfl (by first | rfl | assumption | (simp; done))) rfl rfl rfl rfl rfl rfl rfl rfl rfl rfl rfl rfl, rfl, ?_⟩) | (refine ⟨_, _, _, a_load_ad (gd_on rfl rfl rfl rfl (by first | rfl | assumption | (simp; done))) rfl rfl rfl rfl rfl rfl rfl rfl rfl, rfl, ?_⟩) | (refine ⟨_, _, _, a_load_ptr (gd_on rfl rfl rfl rfl (by first | rfl | assumption | (simp; done))) rfl rfl rfl rfl rfl rfl rfl rfl rfl, rfl, ?_⟩))
  (refine ⟨_, _, _, a_call (gd_on rfl rfl rfl rfl (by first | rfl | assumption | (simp; done))) rfl rfl rfl rfl rfl (z1), rfl, ?_⟩)
  (first | (refine ⟨_, _, _, a_load_all (gd_on rfl rfl rfl rfl (by first | rfl | assumption | (simp; done))) rfl rfl rfl rfl rfl rfl rfl rfl rfl rfl rfl rfl, rfl, ?_⟩) | (refine ⟨_, _, _, a_load_tok (gd_on rfl rfl rfl rfl (by first | rfl | assumption | (simp; done))) rfl rfl rfl rfl rfl rfl rfl rfl rfl rfl rfl rfl rfl, rfl, ?_⟩) | (refine ⟨_, _, _, a_load_bp (gd_on rfl rfl rfl rfl (by first | rfl | assumption | (simp; done))) rfl rfl rfl rfl rfl rfl rfl rfl rfl rfl rfl rfl, rfl, ?_⟩) | (refine ⟨_, _, _, a_load_ad (gd_on rfl rfl rfl rfl (by first | rfl | assumption | (simp; done))) rfl rfl rfl rfl rfl rfl rfl rfl rfl, rfl, ?_⟩) | (refine ⟨_, _, _, a_load_ptr (gd_on rfl rfl rfl rfl (by first | rfl | assumption | (simp; done))) rfl rfl rfl rfl rfl rfl rfl rfl rfl, rfl, ?_⟩))
  (refine ⟨_, _, _, a_call (gd_on rfl rfl rfl rfl (by first | rfl | assumption | (simp; done))) rfl rfl rfl rfl rfl (z2), rfl, ?_⟩)
  (first | (refine ⟨_, _, _, a_load_all (gd_on rfl rfl rfl rfl (by first | rfl | assumption | (simp; done))) rfl rfl rfl rfl rfl rfl rfl rfl rfl rfl rfl rfl, rfl, ?_⟩) | (refine ⟨_, _, _, a_load_tok (gd_on rfl rfl rfl rfl (by first | rfl | assumption | (simp; done))) rfl rfl rfl rfl rfl rfl rfl rfl rfl rfl rfl rfl rfl, rfl, ?_⟩) | (refine ⟨_, _, _, a_load_bp (gd_on rfl rfl rfl rfl (by first | rfl | assumption | (simp; done))) rfl rfl rfl rfl rfl rfl rfl rfl rfl rfl rfl rfl, rfl, ?_⟩) | (refine ⟨_, _, _, a_load_ad (gd_on rfl rfl rfl rfl (by first | rfl | assumption | (simp; done))) rfl rfl rfl rfl rfl rfl rfl rfl rfl, rfl, ?_⟩) | (refine ⟨_, _, _, a_load_ptr (gd_on rfl rfl rfl rfl (by first | rfl | assumption | (simp; done))) rfl rfl rfl rfl rfl rfl rfl rfl rfl, rfl, ?_⟩))
  (refine ⟨_, _, _, a_call (gd_on rfl rfl rfl rfl (by first | rfl | assumption | (simp; done))) rfl rfl rfl rfl rfl (z3), rfl, ?_⟩)
  (refine ⟨_, _, _, a_sub (gd_on rfl rfl rfl rfl (by first | rfl | assumption | (simp; done))) rfl rfl rfl rfl rfl rfl (by first | omega | (simp only [List.length_map, List.length_append, List.length_cons, List.length_nil]; omega) | (simp; omega)), rfl, ?_⟩)
  (first | (refine ⟨_, _, _, a_load_all (gd_on rfl rfl rfl rfl (by first | rfl | assumption | (simp; done))) rfl rfl rfl rfl rfl rfl rfl rfl rfl rfl rfl rfl, rfl, ?_⟩) | (refine ⟨_, _, _, a_load_tok (gd_on rfl rfl rfl rfl (by first | rfl | assumption | (simp; done))) rfl rfl rfl rfl rfl rfl rfl rfl rfl rfl rfl rfl rfl, rfl, ?_⟩) | (refine ⟨_, _, _, a_load_bp (gd_on rfl rfl rfl rfl (by first | rfl | assumption | (simp; done))) rfl rfl rfl rfl rfl rfl rfl rfl rfl rfl rfl rfl, rfl, ?_⟩) | (refine ⟨_, _, _, a_load_ad (gd_on rfl rfl rfl rfl (by first | rfl | assumption | (simp; done))) rfl rfl rfl rfl rfl rfl rfl rfl rfl, rfl, ?_⟩) | (refine ⟨_, _, _, a_load_ptr (gd_on rfl rfl rfl rfl (by first | rfl | assumption | (simp; done))) rfl rfl rfl rfl rfl rfl rfl rfl rfl, rfl, ?_⟩))
  (refine ⟨_, _, _, a_call (gd_on rfl rfl rfl rfl (by first | rfl | assumption | (simp; done))) rfl rfl rfl rfl rfl (z4), rfl, ?_⟩)
  (refine ⟨_, _, _, a_add (gd_on rfl rfl rfl rfl (by first | rfl | assumption | (simp; done))) rfl rfl rfl rfl rfl rfl (by first | omega | (simp only [List.length_map, List.length_append, List.length_cons, List.length_nil]; omega) | (simp; omega)), rfl, ?_⟩)
  (first | (refine ⟨_, _, _, a_neq (gd_on rfl rfl rfl rfl (by first | rfl | assumption | (simp; done))) rfl rfl rfl rfl rfl rfl, rfl, ?_⟩) | (refine ⟨_, _, _, a_bne (gd_on rfl rfl rfl rfl (by first | rfl | assumption | (simp; done))) rfl rfl rfl rfl rfl rfl rfl, rfl, ?_⟩))
  (first | (refine ⟨_, _, _, a_pick_t (gd_none rfl) rfl rfl rfl rfl rfl ?hb rfl, rfl, ?_⟩; case hb => (first | rfl | assumption | (simp; done))) | (refine ⟨_, _, _, a_pick_f (gd_none rfl) rfl rfl rfl rfl rfl ?hb rfl, rfl, ?_⟩; case hb => (first | rfl | assumption | (simp; done))))
  refine ⟨by kernel_rfl, ?_⟩
  show AWp _ _ _ _ _ _ _
  refine awp_cond rfl (fun hc => ?_) (fun hc => awp_skip ?_)
  · exfalso
    simp at hc
    omega
  clear hc
  show AWp _ _ _ _ _ _ _
  refine AWp.wk (wk_sub (s' := [(7, .bp 7 0 []), (100007, .bx a.cw), (9, .val (.lst R)), (10, .val (.lst (place.map CV.i))), (13, .bp 13 0 []), (100013, .bx z.cw)]) ⟨rfl, rfl, rfl, rfl, rfl, rfl, trivial⟩) ?_
  refine awp_seq (awp_seq (awp_region ?_))
  (refine ⟨_, _, _, a_assign (gd_none rfl) rfl rfl rfl rfl rfl, rfl, ?_⟩)
  show AWp _ _ _ _ _ _ _
  refine awp_block (awp_count R.length (fun k => [(7, .bp 7 0 []), (100007, .bx a.cw), (9, .val (.lst R)), (10, .val (.lst (place.map CV.i))), (13, .bp 13 0 []), (100013, .bx z.cw), (19, .val (.i k))]) (wk_sub ⟨rfl, rfl, rfl, rfl, rfl, rfl, rfl, trivial⟩) ?_)
  intro k hk
  refine awp_seq (awp_seq (awp_region ?_))
  (refine ⟨_, _, _, a_move (gd_none rfl) rfl rfl rfl rfl rfl, rfl, ?_⟩)
  (refine ⟨_, _, _, a_move (gd_none rfl) rfl rfl rfl rfl rfl, rfl, ?_⟩)
  (refine ⟨_, _, _, a_len (gd_none rfl) rfl rfl rfl rfl rfl rfl rfl, rfl, ?_⟩)
  (refine ⟨_, _, _, a_lss (gd_none rfl) rfl rfl rfl rfl rfl rfl, rfl, ?_⟩)
  show AWp _ _ _ _ _ _ _
  refine awp_cond rfl (fun hc => awp_skip ?_) (fun hc => awp_exit ?_)
  · have hkl : k < R.length := by
      simp only [decide_eq_true_eq] at hc
      omega
    clear hc
    obtain ⟨q, hq⟩ : ∃ q, ps[k]? = some q := ⟨ps[k]'(by omega), List.getElem?_eq_getElem (by omega)⟩
    have hq' : R[k]? = some (.lst (q.map CV.i)) := by rw [hR]; exact rows_at hq
    obtain ⟨⟨s, hs⟩, hql⟩ := hpa q (List.mem_of_getElem? hq)
    obtain ⟨hsr, hss⟩ := atP_ok hs hra
    show AWp _ _ _ _ _ _ _
    have u1 := under_abs w q place (by omega)
    have u2 := under_abs w place q (by omega)
    by_cases h1 : undB q place = true
    · rw [h1] at u1
      refine awp_seq (awp_block (awp_seq (awp_seq (awp_region ?_))))
      (refine ⟨_, _, _, a_move (gd_none rfl) rfl rfl rfl rfl rfl, rfl, ?_⟩)
      (refine ⟨_, _, _, a_move (gd_none rfl) rfl rfl rfl rfl rfl, rfl, ?_⟩)
      (refine ⟨_, _, _, a_index (gd_none rfl) rfl rfl rfl rfl rfl rfl rfl rfl rfl (by assumption) rfl (by first | assumption | exact szAll_spec rfl | exact Tm.size_all _ | exact Bd.size_all _ | exact ints_size _), rfl, ?_⟩)
      (first | (refine ⟨_, _, _, a_load_all (gd_none rfl) rfl rfl rfl rfl rfl rfl rfl rfl rfl rfl rfl rfl, rfl, ?_⟩) | (refine ⟨_, _, _, a_load_tok (gd_none rfl) rfl rfl rfl rfl rfl rfl rfl rfl rfl rfl rfl rfl rfl, rfl, ?_⟩) | (refine ⟨_, _, _, a_load_bp (gd_none rfl) rfl rfl rfl rfl rfl rfl rfl rfl rfl rfl rfl rfl, rfl, ?_⟩) | (refine ⟨_, _, _, a_load_ad (gd_none rfl) rfl rfl rfl rfl rfl rfl rfl rfl rfl, rfl, ?_⟩) | (refine ⟨_, _, _, a_load_ptr (gd_none rfl) rfl rfl rfl rfl rfl rfl rfl rfl rfl, rfl, ?_⟩))
      (refine ⟨_, _, _, a_move (gd_none rfl) rfl rfl rfl rfl rfl, rfl, ?_⟩)
      (refine ⟨_, _, _, a_call (gd_none rfl) rfl rfl rfl rfl rfl (u1), rfl, ?_⟩)
      (refine ⟨_, _, _, a_move (gd_none rfl) rfl rfl rfl rfl rfl, rfl, ?_⟩)
      (refine ⟨_, _, _, a_off (go_off rfl rfl rfl rfl (by first | rfl | assumption | (simp; done) | (simp [*]; done))) rfl rfl rfl, rfl, ?_⟩)
      (refine ⟨_, _, _, a_off (go_off rfl rfl rfl rfl (by first | rfl | assumption | (simp; done) | (simp [*]; done))) rfl rfl rfl, rfl, ?_⟩)
      (refine ⟨_, _, _, a_off (go_off rfl rfl rfl rfl (by first | rfl | assumption | (simp; done) | (simp [*]; done))) rfl rfl rfl, rfl, ?_⟩)
      (refine ⟨_, _, _, a_off (go_off rfl rfl rfl rfl (by first | rfl | assumption | (simp; done) | (simp [*]; done))) rfl rfl rfl, rfl, ?_⟩)
      (refine ⟨_, _, _, a_off (go_off rfl rfl rfl rfl (by first | rfl | assumption | (simp; done) | (simp [*]; done))) rfl rfl rfl, rfl, ?_⟩)
      (refine ⟨_, _, _, a_off (go_off rfl rfl rfl rfl (by first | rfl | assumption | (simp; done) | (simp [*]; done))) rfl rfl rfl, rfl, ?_⟩)
      (first | (refine ⟨_, _, _, a_pick_t (gd_none rfl) rfl rfl rfl rfl rfl ?hb rfl, rfl, ?_⟩; case hb => (first | rfl | assumption | (simp; done))) | (refine ⟨_, _, _, a_pick_f (gd_none rfl) rfl rfl rfl rfl rfl ?hb rfl, rfl, ?_⟩; case hb => (first | rfl | assumption | (simp; done))))
      show AWp _ _ _ _ _ _ _
      refine awp_cond rfl (fun hc => awp_exit ?_) (fun hc => by cases hc)
      show AWp _ _ _ _ _ _ _
      refine awp_region ?_
      (refine ⟨_, _, _, a_move (gd_none rfl) rfl rfl rfl rfl rfl, rfl, ?_⟩)
      (refine ⟨_, _, _, a_add (gd_none rfl) rfl rfl rfl rfl rfl rfl (by first | omega | (simp only [List.length_map, List.length_append, List.length_cons, List.length_nil]; omega) | (simp; omega)), rfl, ?_⟩)
      (refine ⟨_, _, _, a_assign (gd_none rfl) rfl rfl rfl rfl rfl, rfl, ?_⟩)
      exact ⟨hkl, wk_sub ⟨rfl, rfl, rfl, rfl, rfl, rfl, rfl, trivial⟩⟩
    have h1 : undB q place = false := by simpa using h1
    rw [h1] at u1
    by_cases h2 : undB place q = true
    · rw [h2] at u2
      refine awp_seq (awp_block (awp_seq (awp_seq (awp_region ?_))))
      (refine ⟨_, _, _, a_move (gd_none rfl) rfl rfl rfl rfl rfl, rfl, ?_⟩)
      (refine ⟨_, _, _, a_move (gd_none rfl) rfl rfl rfl rfl rfl, rfl, ?_⟩)
      (refine ⟨_, _, _, a_index (gd_none rfl) rfl rfl rfl rfl rfl rfl rfl rfl rfl (by assumption) rfl (by first | assumption | exact szAll_spec rfl | exact Tm.size_all _ | exact Bd.size_all _ | exact ints_size _), rfl, ?_⟩)
      (first | (refine ⟨_, _, _, a_load_all (gd_none rfl) rfl rfl rfl rfl rfl rfl rfl rfl rfl rfl rfl rfl, rfl, ?_⟩) | (refine ⟨_, _, _, a_load_tok (gd_none rfl) rfl rfl rfl rfl rfl rfl rfl rfl rfl rfl rfl rfl rfl, rfl, ?_⟩) | (refine ⟨_, _, _, a_load_bp (gd_none rfl) rfl rfl rfl rfl rfl rfl rfl rfl rfl rfl rfl rfl, rfl, ?_⟩) | (refine ⟨_, _, _, a_load_ad (gd_none rfl) rfl rfl rfl rfl rfl rfl rfl rfl rfl, rfl, ?_⟩) | (refine ⟨_, _, _, a_load_ptr (gd_none rfl) rfl rfl rfl rfl rfl rfl rfl rfl rfl, rfl, ?_⟩))
      (refine ⟨_, _, _, a_move (gd_none rfl) rfl rfl rfl rfl rfl, rfl, ?_⟩)
      (refine ⟨_, _, _, a_call (gd_none rfl) rfl rfl rfl rfl rfl (u1), rfl, ?_⟩)
      (refine ⟨_, _, _, a_move (gd_none rfl) rfl rfl rfl rfl rfl, rfl, ?_⟩)
      (refine ⟨_, _, _, a_move (gd_on rfl rfl rfl rfl (by first | rfl | assumption | (simp; done))) rfl rfl rfl rfl rfl, rfl, ?_⟩)
      (refine ⟨_, _, _, a_move (gd_on rfl rfl rfl rfl (by first | rfl | assumption | (simp; done))) rfl rfl rfl rfl rfl, rfl, ?_⟩)
      (refine ⟨_, _, _, a_move (gd_on rfl rfl rfl rfl (by first | rfl | assumption | (simp; done))) rfl rfl rfl rfl rfl, rfl, ?_⟩)
      (refine ⟨_, _, _, a_index (gd_on rfl rfl rfl rfl (by first | rfl | assumption | (simp; done))) rfl rfl rfl rfl rfl rfl rfl rfl rfl (by assumption) rfl (by first | assumption | exact szAll_spec rfl | exact Tm.size_all _ | exact Bd.size_all _ | exact ints_size _), rfl, ?_⟩)
      (first | (refine ⟨_, _, _, a_load_all (gd_on rfl rfl rfl rfl (by first | rfl | assumption | (simp; done))) rfl rfl rfl rfl rfl rfl rfl rfl rfl rfl rfl rfl, rfl, ?_⟩) | (refine ⟨_, _, _, a_load_tok (gd_on rfl rfl rfl rfl (by first | rfl | assumption | (simp; done))) rfl rfl rfl rfl rfl rfl rfl rfl rfl rfl rfl rfl rfl, rfl, ?_⟩) | (refine ⟨_, _, _, a_load_bp (gd_on rfl rfl rfl rfl (by first | rfl | assumption | (simp; done))) rfl rfl rfl rfl rfl rfl rfl rfl rfl rfl rfl rfl, rfl, ?_⟩) | (refine ⟨_, _, _, a_load_ad (gd_on rfl rfl rfl rfl (by first | rfl | assumption | (simp; done))) rfl rfl rfl rfl rfl rfl rfl rfl rfl, rfl, ?_⟩) | (refine ⟨_, _, _, a_load_ptr (gd_on rfl rfl rfl rfl (by first | rfl | assumption | (simp; done))) rfl rfl rfl rfl rfl rfl rfl rfl rfl, rfl, ?_⟩))
      (refine ⟨_, _, _, a_call (gd_on rfl rfl rfl rfl (by first | rfl | assumption | (simp; done))) rfl rfl rfl rfl rfl (u2), rfl, ?_⟩)
      (first | (refine ⟨_, _, _, a_pick_t (gd_none rfl) rfl rfl rfl rfl rfl ?hb rfl, rfl, ?_⟩; case hb => (first | rfl | assumption | (simp; done))) | (refine ⟨_, _, _, a_pick_f (gd_none rfl) rfl rfl rfl rfl rfl ?hb rfl, rfl, ?_⟩; case hb => (first | rfl | assumption | (simp; done))))
      show AWp _ _ _ _ _ _ _
      refine awp_cond rfl (fun hc => awp_exit ?_) (fun hc => by cases hc)
      show AWp _ _ _ _ _ _ _
      refine awp_region ?_
      (refine ⟨_, _, _, a_move (gd_none rfl) rfl rfl rfl rfl rfl, rfl, ?_⟩)
      (refine ⟨_, _, _, a_add (gd_none rfl) rfl rfl rfl rfl rfl rfl (by first | omega | (simp only [List.length_map, List.length_append, List.length_cons, List.length_nil]; omega) | (simp; omega)), rfl, ?_⟩)
      (refine ⟨_, _, _, a_assign (gd_none rfl) rfl rfl rfl rfl rfl, rfl, ?_⟩)
      exact ⟨hkl, wk_sub ⟨rfl, rfl, rfl, rfl, rfl, rfl, rfl, trivial⟩⟩
    have h2 : undB place q = false := by simpa using h2
    rw [h2] at u2
    refine awp_seq (awp_block (awp_seq (awp_seq (awp_region ?_))))
    (refine ⟨_, _, _, a_move (gd_none rfl) rfl rfl rfl rfl rfl, rfl, ?_⟩)
    (refine ⟨_, _, _, a_move (gd_none rfl) rfl rfl rfl rfl rfl, rfl, ?_⟩)
    (refine ⟨_, _, _, a_index (gd_none rfl) rfl rfl rfl rfl rfl rfl rfl rfl rfl (by assumption) rfl (by first | assumption | exact szAll_spec rfl | exact Tm.size_all _ | exact Bd.size_all _ | exact ints_size _), rfl, ?_⟩)
    (first | (refine ⟨_, _, _, a_load_all (gd_none rfl) rfl rfl rfl rfl rfl rfl rfl rfl rfl rfl rfl rfl, rfl, ?_⟩) | (refine ⟨_, _, _, a_load_tok (gd_none rfl) rfl rfl rfl rfl rfl rfl rfl rfl rfl rfl rfl rfl rfl, rfl, ?_⟩) | (refine ⟨_, _, _, a_load_bp (gd_none rfl) rfl rfl rfl rfl rfl rfl rfl rfl rfl rfl rfl rfl, rfl, ?_⟩) | (refine ⟨_, _, _, a_load_ad (gd_none rfl) rfl rfl rfl rfl rfl rfl rfl rfl rfl, rfl, ?_⟩) | (refine ⟨_, _, _, a_load_ptr (gd_none rfl) rfl rfl rfl rfl rfl rfl rfl rfl rfl, rfl, ?_⟩))
    (refine ⟨_, _, _, a_move (gd_none rfl) rfl rfl rfl rfl rfl, rfl, ?_⟩)
    (refine ⟨_, _, _, a_call (gd_none rfl) rfl rfl rfl rfl rfl (u1), rfl, ?_⟩)
    (refine ⟨_, _, _, a_move (gd_none rfl) rfl rfl rfl rfl rfl, rfl, ?_⟩)
    (refine ⟨_, _, _, a_move (gd_on rfl rfl rfl rfl (by first | rfl | assumption | (simp; done))) rfl rfl rfl rfl rfl, rfl, ?_⟩)
    (refine ⟨_, _, _, a_move (gd_on rfl rfl rfl rfl (by first | rfl | assumption | (simp; done))) rfl rfl rfl rfl rfl, rfl, ?_⟩)
    (refine ⟨_, _, _, a_move (gd_on rfl rfl rfl rfl (by first | rfl | assumption | (simp; done))) rfl rfl rfl rfl rfl, rfl, ?_⟩)
    (refine ⟨_, _, _, a_index (gd_on rfl rfl rfl rfl (by first | rfl | assumption | (simp; done))) rfl rfl rfl rfl rfl rfl rfl rfl rfl (by assumption) rfl (by first | assumption | exact szAll_spec rfl | exact Tm.size_all _ | exact Bd.size_all _ | exact ints_size _), rfl, ?_⟩)
    (first | (refine ⟨_, _, _, a_load_all (gd_on rfl rfl rfl rfl (by first | rfl | assumption | (simp; done))) rfl rfl rfl rfl rfl rfl rfl rfl rfl rfl rfl rfl, rfl, ?_⟩) | (refine ⟨_, _, _, a_load_tok (gd_on rfl rfl rfl rfl (by first | rfl | assumption | (simp; done))) rfl rfl rfl rfl rfl rfl rfl rfl rfl rfl rfl rfl rfl, rfl, ?_⟩) | (refine ⟨_, _, _, a_load_bp (gd_on rfl rfl rfl rfl (by first | rfl | assumption | (simp; done))) rfl rfl rfl rfl rfl rfl rfl rfl rfl rfl rfl rfl, rfl, ?_⟩) | (refine ⟨_, _, _, a_load_ad (gd_on rfl rfl rfl rfl (by first | rfl | assumption | (simp; done))) rfl rfl rfl rfl rfl rfl rfl rfl rfl, rfl, ?_⟩) | (refine ⟨_, _, _, a_load_ptr (gd_on rfl rfl rfl rfl (by first | rfl | assumption | (simp; done))) rfl rfl rfl rfl rfl rfl rfl rfl rfl, rfl, ?_⟩))
    (refine ⟨_, _, _, a_call (gd_on rfl rfl rfl rfl (by first | rfl | assumption | (simp; done))) rfl rfl rfl rfl rfl (u2), rfl, ?_⟩)
    (first | (refine ⟨_, _, _, a_pick_t (gd_none rfl) rfl rfl rfl rfl rfl ?hb rfl, rfl, ?_⟩; case hb => (first | rfl | assumption | (simp; done))) | (refine ⟨_, _, _, a_pick_f (gd_none rfl) rfl rfl rfl rfl rfl ?hb rfl, rfl, ?_⟩; case hb => (first | rfl | assumption | (simp; done))))
    show AWp _ _ _ _ _ _ _
    refine awp_cond rfl (fun hc => by cases hc) (fun hc => awp_skip ?_)
    show AWp _ _ _ _ _ _ _
    obtain ⟨y, hy, hys⟩ := putP_beside u place q a z s hz (by unfold undB at h1; simpa using h1) (by unfold undB at h2; simpa using h2) hs
    obtain ⟨hyr, hyz⟩ := atP_ok hy hzr
    have b1 := at_abs w a q (by omega) hra (by omega)
    rw [hs] at b1
    have b2 := at_abs w z q (by omega) hzr (by omega)
    rw [hy] at b2
    have b3 := same_abs w (Tm.strip_rng hsr) (Tm.strip_rng hyr)
    rw [show sameT s.strip y.strip = true by rw [sameT_iff, hys]] at b3
    refine awp_seq (awp_draw (by kernel_rfl) (by kernel_rfl) ?_)
    (first | (refine ⟨_, _, _, a_load_all (gd_none rfl) rfl rfl rfl rfl rfl rfl rfl rfl rfl rfl rfl rfl, rfl, ?_⟩) | (refine ⟨_, _, _, a_load_tok (gd_none rfl) rfl rfl rfl rfl rfl rfl rfl rfl rfl rfl rfl rfl rfl, rfl, ?_⟩) | (refine ⟨_, _, _, a_load_bp (gd_none rfl) rfl rfl rfl rfl rfl rfl rfl rfl rfl rfl rfl rfl, rfl, ?_⟩) | (refine ⟨_, _, _, a_load_ad (gd_none rfl) rfl rfl rfl rfl rfl rfl rfl rfl rfl, rfl, ?_⟩) | (refine ⟨_, _, _, a_load_ptr (gd_none rfl) rfl rfl rfl rfl rfl rfl rfl rfl rfl, rfl, ?_⟩))
    (refine ⟨_, _, _, a_move (gd_none rfl) rfl rfl rfl rfl rfl, rfl, ?_⟩)
    (refine ⟨_, _, _, a_move (gd_none rfl) rfl rfl rfl rfl rfl, rfl, ?_⟩)
    (refine ⟨_, _, _, a_index (gd_none rfl) rfl rfl rfl rfl rfl rfl rfl rfl rfl (by assumption) rfl (by first | assumption | exact szAll_spec rfl | exact Tm.size_all _ | exact Bd.size_all _ | exact ints_size _), rfl, ?_⟩)
    (first | (refine ⟨_, _, _, a_load_all (gd_none rfl) rfl rfl rfl rfl rfl rfl rfl rfl rfl rfl rfl rfl, rfl, ?_⟩) | (refine ⟨_, _, _, a_load_tok (gd_none rfl) rfl rfl rfl rfl rfl rfl rfl rfl rfl rfl rfl rfl rfl, rfl, ?_⟩) | (refine ⟨_, _, _, a_load_bp (gd_none rfl) rfl rfl rfl rfl rfl rfl rfl rfl rfl rfl rfl rfl, rfl, ?_⟩) | (refine ⟨_, _, _, a_load_ad (gd_none rfl) rfl rfl rfl rfl rfl rfl rfl rfl rfl, rfl, ?_⟩) | (refine ⟨_, _, _, a_load_ptr (gd_none rfl) rfl rfl rfl rfl rfl rfl rfl rfl rfl, rfl, ?_⟩))
    (refine ⟨_, _, _, a_call (gd_none rfl) rfl rfl rfl rfl rfl (b1), rfl, ?_⟩)
    (refine ⟨_, _, _, a_move (gd_none rfl) rfl rfl rfl rfl rfl, rfl, ?_⟩)
    (refine ⟨_, _, _, a_extract (gd_none rfl) rfl rfl rfl rfl rfl rfl, rfl, ?_⟩)
    (refine ⟨_, _, _, a_extract (gd_none rfl) rfl rfl rfl rfl rfl rfl, rfl, ?_⟩)
    (refine ⟨_, _, _, a_alloc (gd_none rfl) rfl rfl rfl rfl rfl rfl rfl rfl rfl rfl, rfl, ?_⟩)
    (first | (refine ⟨_, _, _, a_store_all (gd_none rfl) rfl rfl rfl rfl rfl rfl rfl rfl rfl rfl, rfl, ?_⟩) | (refine ⟨_, _, _, a_store (gd_none rfl) rfl rfl rfl rfl rfl rfl rfl rfl rfl rfl, rfl, ?_⟩))
    (refine ⟨_, _, _, a_assign (gd_none rfl) rfl rfl rfl rfl rfl, rfl, ?_⟩)
    refine ⟨by kernel_rfl, ?_⟩
    show AWp _ _ _ _ _ _ _
    refine awp_seq (awp_draw (by kernel_rfl) (by kernel_rfl) ?_)
    (first | (refine ⟨_, _, _, a_load_all (gd_none rfl) rfl rfl rfl rfl rfl rfl rfl rfl rfl rfl rfl rfl, rfl, ?_⟩) | (refine ⟨_, _, _, a_load_tok (gd_none rfl) rfl rfl rfl rfl rfl rfl rfl rfl rfl rfl rfl rfl rfl, rfl, ?_⟩) | (refine ⟨_, _, _, a_load_bp (gd_none rfl) rfl rfl rfl rfl rfl rfl rfl rfl rfl rfl rfl rfl, rfl, ?_⟩) | (refine ⟨_, _, _, a_load_ad (gd_none rfl) rfl rfl rfl rfl rfl rfl rfl rfl rfl, rfl, ?_⟩) | (refine ⟨_, _, _, a_load_ptr (gd_none rfl) rfl rfl rfl rfl rfl rfl rfl rfl rfl, rfl, ?_⟩))
    (refine ⟨_, _, _, a_move (gd_none rfl) rfl rfl rfl rfl rfl, rfl, ?_⟩)
    (refine ⟨_, _, _, a_move (gd_none rfl) rfl rfl rfl rfl rfl, rfl, ?_⟩)
    (refine ⟨_, _, _, a_index (gd_none rfl) rfl rfl rfl rfl rfl rfl rfl rfl rfl (by assumption) rfl (by first | assumption | exact szAll_spec rfl | exact Tm.size_all _ | exact Bd.size_all _ | exact ints_size _), rfl, ?_⟩)
    (first | (refine ⟨_, _, _, a_load_all (gd_none rfl) rfl rfl rfl rfl rfl rfl rfl rfl rfl rfl rfl rfl, rfl, ?_⟩) | (refine ⟨_, _, _, a_load_tok (gd_none rfl) rfl rfl rfl rfl rfl rfl rfl rfl rfl rfl rfl rfl rfl, rfl, ?_⟩) | (refine ⟨_, _, _, a_load_bp (gd_none rfl) rfl rfl rfl rfl rfl rfl rfl rfl rfl rfl rfl rfl, rfl, ?_⟩) | (refine ⟨_, _, _, a_load_ad (gd_none rfl) rfl rfl rfl rfl rfl rfl rfl rfl rfl, rfl, ?_⟩) | (refine ⟨_, _, _, a_load_ptr (gd_none rfl) rfl rfl rfl rfl rfl rfl rfl rfl rfl, rfl, ?_⟩))
    (refine ⟨_, _, _, a_call (gd_none rfl) rfl rfl rfl rfl rfl (b2), rfl, ?_⟩)
    (refine ⟨_, _, _, a_move (gd_none rfl) rfl rfl rfl rfl rfl, rfl, ?_⟩)
    (refine ⟨_, _, _, a_extract (gd_none rfl) rfl rfl rfl rfl rfl rfl, rfl, ?_⟩)
    (refine ⟨_, _, _, a_extract (gd_none rfl) rfl rfl rfl rfl rfl rfl, rfl, ?_⟩)
    (refine ⟨_, _, _, a_alloc (gd_none rfl) rfl rfl rfl rfl rfl rfl rfl rfl rfl rfl, rfl, ?_⟩)
    (first | (refine ⟨_, _, _, a_store_all (gd_none rfl) rfl rfl rfl rfl rfl rfl rfl rfl rfl rfl, rfl, ?_⟩) | (refine ⟨_, _, _, a_store (gd_none rfl) rfl rfl rfl rfl rfl rfl rfl rfl rfl rfl, rfl, ?_⟩))
    (refine ⟨_, _, _, a_assign (gd_none rfl) rfl rfl rfl rfl rfl, rfl, ?_⟩)
    refine ⟨by kernel_rfl, ?_⟩
    show AWp _ _ _ _ _ _ _
    refine awp_seq (awp_region ?_)
    (refine ⟨_, _, _, a_move (gd_none rfl) rfl rfl rfl rfl rfl, rfl, ?_⟩)
    (refine ⟨_, _, _, a_not (gd_none rfl) rfl rfl rfl rfl rfl, rfl, ?_⟩)
    (refine ⟨_, _, _, a_move (gd_none rfl) rfl rfl rfl rfl rfl, rfl, ?_⟩)
    (first | (refine ⟨_, _, _, a_load_all (gd_on rfl rfl rfl rfl (by first | rfl | assumption | (simp; done))) rfl rfl rfl rfl rfl rfl rfl rfl rfl rfl rfl rfl, rfl, ?_⟩) | (refine ⟨_, _, _, a_load_tok (gd_on rfl rfl rfl rfl (by first | rfl | assumption | (simp; done))) rfl rfl rfl rfl rfl rfl rfl rfl rfl rfl rfl rfl rfl, rfl, ?_⟩) | (refine ⟨_, _, _, a_load_bp (gd_on rfl rfl rfl rfl (by first | rfl | assumption | (simp; done))) rfl rfl rfl rfl rfl rfl rfl rfl rfl rfl rfl rfl, rfl, ?_⟩) | (refine ⟨_, _, _, a_load_ad (gd_on rfl rfl rfl rfl (by first | rfl | assumption | (simp; done))) rfl rfl rfl rfl rfl rfl rfl rfl rfl, rfl, ?_⟩) | (refine ⟨_, _, _, a_load_ptr (gd_on rfl rfl rfl rfl (by first | rfl | assumption | (simp; done))) rfl rfl rfl rfl rfl rfl rfl rfl rfl, rfl, ?_⟩))
    (first | (refine ⟨_, _, _, a_load_all (gd_on rfl rfl rfl rfl (by first | rfl | assumption | (simp; done))) rfl rfl rfl rfl rfl rfl rfl rfl rfl rfl rfl rfl, rfl, ?_⟩) | (refine ⟨_, _, _, a_load_tok (gd_on rfl rfl rfl rfl (by first | rfl | assumption | (simp; done))) rfl rfl rfl rfl rfl rfl rfl rfl rfl rfl rfl rfl rfl, rfl, ?_⟩) | (refine ⟨_, _, _, a_load_bp (gd_on rfl rfl rfl rfl (by first | rfl | assumption | (simp; done))) rfl rfl rfl rfl rfl rfl rfl rfl rfl rfl rfl rfl, rfl, ?_⟩) | (refine ⟨_, _, _, a_load_ad (gd_on rfl rfl rfl rfl (by first | rfl | assumption | (simp; done))) rfl rfl rfl rfl rfl rfl rfl rfl rfl, rfl, ?_⟩) | (refine ⟨_, _, _, a_load_ptr (gd_on rfl rfl rfl rfl (by first | rfl | assumption | (simp; done))) rfl rfl rfl rfl rfl rfl rfl rfl rfl, rfl, ?_⟩))
    (refine ⟨_, _, _, a_call (gd_on rfl rfl rfl rfl (by first | rfl | assumption | (simp; done))) rfl rfl rfl rfl rfl (b3), rfl, ?_⟩)
    (refine ⟨_, _, _, a_not (gd_on rfl rfl rfl rfl (by first | rfl | assumption | (simp; done))) rfl rfl rfl rfl rfl, rfl, ?_⟩)
    (first | (refine ⟨_, _, _, a_pick_t (gd_none rfl) rfl rfl rfl rfl rfl ?hb rfl, rfl, ?_⟩; case hb => (first | rfl | assumption | (simp; done))) | (refine ⟨_, _, _, a_pick_f (gd_none rfl) rfl rfl rfl rfl rfl ?hb rfl, rfl, ?_⟩; case hb => (first | rfl | assumption | (simp; done))))
    show AWp _ _ _ _ _ _ _
    refine awp_cond rfl (fun hc => by cases hc) (fun hc => awp_skip ?_)
    show AWp _ _ _ _ _ _ _
    refine awp_region ?_
    (refine ⟨_, _, _, a_move (gd_none rfl) rfl rfl rfl rfl rfl, rfl, ?_⟩)
    (refine ⟨_, _, _, a_add (gd_none rfl) rfl rfl rfl rfl rfl rfl (by first | omega | (simp only [List.length_map, List.length_append, List.length_cons, List.length_nil]; omega) | (simp; omega)), rfl, ?_⟩)
    (refine ⟨_, _, _, a_assign (gd_none rfl) rfl rfl rfl rfl rfl, rfl, ?_⟩)
    exact ⟨hkl, wk_sub ⟨rfl, rfl, rfl, rfl, rfl, rfl, rfl, trivial⟩⟩
  · show AWp _ _ _ _ _ _ _
    refine awp_seq (awp_region ?_)
    (refine ⟨_, _, _, a_assign (gd_none rfl) rfl rfl rfl rfl rfl, rfl, ?_⟩)
    show AWp _ _ _ _ _ _ _
    exact awp_ret (And.intro (.inr rfl) rfl)
end Go.Proofs.Ytffecopfikbbbaa
