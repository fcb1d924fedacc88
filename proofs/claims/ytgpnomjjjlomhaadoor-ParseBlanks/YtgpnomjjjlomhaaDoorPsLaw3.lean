/-
  ParseBlanks.
-/
import Derived.Test.YtgpnomjjjlomhaaDoorMg5
-- @STR@
namespace Go.Proofs.YtgpnomjjjlomhaaDoor
open Go.RowKit
set_option linter.unusedVariables false
set_option linter.unusedSimpArgs false
set_option maxRecDepth 100000

theorem prF_err3 {n : Nat} {src : By} {r : Sg × List (List Lt) × Int} (h : prF n src = some r) : 0 ≤ r.2.2 ∧ r.2.2 ≤ 9 := by
  unfold prF at h
  split at h
  · cases h; exact ⟨by decide, by decide⟩
  · split at h
    · cases h
    · split at h
      · split at h
        · cases h
        · split at h
          · cases h; exact ⟨Int.le_refl _, by show (0 : Int) ≤ 9; decide⟩
          · cases h; exact ⟨by show (0 : Int) ≤ 7; decide, by show (7 : Int) ≤ 9; decide⟩
      · cases h; exact ⟨by decide, by decide⟩
theorem prF_sig {n : Nat} {src : By} {r : Sg × List (List Lt) × Int} (h : prF n src = some r) : r.1.ar.length = r.1.nm.length ∧ r.1.pr.length = r.1.nm.length ∧ r.1.nm.length ≤ 1000000 := by
  by_cases he : r.2.2 = 0
  · obtain ⟨_, cs, q, _, _, h3, h4, h5, _⟩ := prF_ok h he
    obtain ⟨p1, _⟩ := mnF_p cs nm0 [] q nm0_p (fun c hc => by cases hc) h3 h4
    obtain ⟨q', k1, _, k3, _⟩ := mnF_rl cs nm0 nm0 [] [] q Rl.zero h3 h4
    rw [h5]
    exact ⟨p1.la, p1.lp, by have := k3.few; exact Nat.le_trans this (by decide)⟩
  · obtain ⟨_, e⟩ := prF_nil h he
    rw [e]
    exact ⟨rfl, rfl, Nat.zero_le _⟩
theorem prF_lenL {n : Nat} {src : By} {r : Sg × List (List Lt) × Int} (h : prF n src = some r) : r.2.1.length ≤ 64 := by
  by_cases he : r.2.2 = 0
  · obtain ⟨_, cs, q, _, h2, h3, h4, _, h6⟩ := prF_ok h he
    obtain ⟨d, d1, d2⟩ := mnF_acc cs nm0 [] q h3 h4
    rw [h6, d1, List.nil_append, d2]
    exact h2
  · rw [(prF_nil h he).1]
    exact Nat.zero_le _
theorem prF_toks {n : Nat} {s a : By} (hs : s.length ≤ 32768) (ha : a.length ≤ 32768) (ht : toks s = toks a) : prF n s = prF n a := by
  unfold prF
  rw [if_neg (by omega), if_neg (by omega), rdAll_tl, rdAll_tl, ht]
-- 
set_option maxHeartbeats 16000000 in
theorem parseBlanks_abs (W : World) (a b : By) (ha : a.length ≤ 9223372036854775807) (hb : b.length ≤ 9223372036854775807) : AFun Tryd.prog W 5 [sv a, sv b] (.val (.b true)) := by
  refine afun_of (rs := [.b true]) Tryd.func5 Tryd.ntmps5 rfl rfl rfl rfl ?_
  intro w U hW
  have h0 := alive12_abs w
  refine aS (aR ?_)
  (refine nx (aA (gN rfl) rfl rfl rfl rfl rfl) rfl ?_)
  show AWp _ _ _ _ _ _ _
  refine aS (aS (aR ?_))
  (refine nx (a_call (gN rfl) rfl rfl rfl rfl rfl (h0)) rfl ?_)
  (refine nx (a_not (gN rfl) rfl rfl rfl rfl rfl) rfl ?_)
  show AWp _ _ _ _ _ _ _
  refine aC rfl (fun hc => by cases hc) (fun hc => aK ?_)
  show AWp _ _ _ _ _ _ _
  refine AWp.wk (wk_sub (s' := [(0, .val (sv a)), (1, .val (sv b))]) ⟨rfl, rfl, trivial⟩) ?_
  cases hl : decide ((a.length : Int) > 1000) with
  | true =>
    refine aS (aS (aR ?_))
    (refine nx (aM (gN rfl) rfl rfl rfl rfl rfl) rfl ?_)
    (refine nx (a_slen (gN rfl) rfl rfl rfl rfl rfl rfl rfl) rfl ?_)
    (refine nx (a_gtr (gN rfl) rfl rfl rfl rfl rfl rfl) rfl ?_)
    (refine nx (aM (gN rfl) rfl rfl rfl rfl rfl) rfl ?_)
    (refine ⟨_, _, _, a_off (go_off rfl rfl rfl rfl (by first | rfl | assumption | (simp; done) | (simp [*]; done))) rfl rfl rfl, rfl, ?_⟩)
    (refine ⟨_, _, _, a_off (go_off rfl rfl rfl rfl (by first | rfl | assumption | (simp; done) | (simp [*]; done))) rfl rfl rfl, rfl, ?_⟩)
    (refine ⟨_, _, _, a_off (go_off rfl rfl rfl rfl (by first | rfl | assumption | (simp; done) | (simp [*]; done))) rfl rfl rfl, rfl, ?_⟩)
    (refine ⟨_, _, _, aPt (gN rfl) rfl rfl rfl rfl rfl ?hb rfl, rfl, ?_⟩; case hb => (first | rfl | assumption | (simp; done)))
    show AWp _ _ _ _ _ _ _
    refine aC rfl (fun hc => ?_) (fun hc => by cases hc)
    refine aS (aR ?_)
    (refine nx (aA (gN rfl) rfl rfl rfl rfl rfl) rfl ?_)
    show AWp _ _ _ _ _ _ _
    exact aT (And.intro (.inr rfl) rfl)
  | false =>
    have hla : a.length ≤ 1000 := by
      have : ¬ (a.length : Int) > 1000 := by simpa using hl
      omega
    refine aS (aS (aR ?_))
    (refine nx (aM (gN rfl) rfl rfl rfl rfl rfl) rfl ?_)
    (refine nx (a_slen (gN rfl) rfl rfl rfl rfl rfl rfl rfl) rfl ?_)
    (refine nx (a_gtr (gN rfl) rfl rfl rfl rfl rfl rfl) rfl ?_)
    (refine nx (aM (gN rfl) rfl rfl rfl rfl rfl) rfl ?_)
    (refine nx (aM (gd_on rfl rfl rfl rfl (by first | rfl | assumption | (simp; done))) rfl rfl rfl rfl rfl) rfl ?_)
    (refine nx (a_slen (gd_on rfl rfl rfl rfl (by first | rfl | assumption | (simp; done))) rfl rfl rfl rfl rfl rfl rfl) rfl ?_)
    (refine nx (a_gtr (gd_on rfl rfl rfl rfl (by first | rfl | assumption | (simp; done))) rfl rfl rfl rfl rfl rfl) rfl ?_)
    (refine ⟨_, _, _, aPf (gN rfl) rfl rfl rfl rfl rfl ?hb rfl, rfl, ?_⟩; case hb => (first | rfl | assumption | (simp; done)))
    show AWp _ _ _ _ _ _ _
    refine aC rfl (fun hc => ?_) (fun hc => aK ?_)
    · refine aS (aR ?_)
      (refine nx (aA (gN rfl) rfl rfl rfl rfl rfl) rfl ?_)
      show AWp _ _ _ _ _ _ _
      exact aT (And.intro (.inr rfl) rfl)
    · have hlb : b.length ≤ 1000 := by
        have hc : decide ((b.length : Int) > 1000) = false := hc
        have : ¬ (b.length : Int) > 1000 := by simpa using hc
        omega
      obtain ⟨r, hr⟩ := prF_some a
      obtain ⟨j, hj⟩ := prF_some ((a ++ [10]) ++ b)
      obtain ⟨q, hq⟩ := prF_some b
      have hr2 : prF 65600 (([37, 32, 120, 10, 32] ++ a) ++ [10, 9, 37]) = some r := by
        rw [prF_toks (a := a) (by simp only [List.length_append, List.length_cons, List.length_nil]; omega) (by omega) (toks_bl a)]
        exact hr
      have l2 : (([37, 32, 120, 10, 32] ++ a) ++ [10, 9, 37]).length ≤ 9223372036854775807 := by simp only [List.length_append, List.length_cons, List.length_nil]; omega
      have l3 : ((a ++ [10]) ++ b).length ≤ 9223372036854775807 := by simp only [List.length_append, List.length_cons, List.length_nil]; omega
      have c1 := parse_abs w 65600 a r ha hr
      have c2 := parse_abs w 65600 _ r l2 hr2
      have c3 := parse_abs w 65600 _ j l3 hj
      have c4 := parse_abs w 65600 b q hb hq
      obtain ⟨s1, s2, s3⟩ := prF_sig hr
      have t1 := to12_abs w r.1
      have t2 := sameSig_abs w r.1 s1 s2 s3
      have xr := prF_err3 hr
      have xj := prF_err3 hj
      have xq := prF_err3 hq
      have yr := prF_lenL hr
      have yj := prF_lenL hj
      have yq := prF_lenL hq
      have hro := prF_g hr
      show AWp _ _ _ _ _ _ _
      refine aS (aR ?_)
      (refine nx (aM (gN rfl) rfl rfl rfl rfl rfl) rfl ?_)
      (refine nx (a_call (gN rfl) rfl rfl rfl rfl rfl (c1)) rfl ?_)
      (refine nx (aM (gN rfl) rfl rfl rfl rfl rfl) rfl ?_)
      (refine nx (aX (gN rfl) rfl rfl rfl rfl rfl rfl) rfl ?_)
      (refine nx (aX (gN rfl) rfl rfl rfl rfl rfl rfl) rfl ?_)
      (refine nx (aX (gN rfl) rfl rfl rfl rfl rfl rfl) rfl ?_)
      (refine nx (a_alloc (gN rfl) rfl rfl rfl rfl rfl rfl rfl rfl rfl rfl) rfl ?_)
      (refine nx (aSt (gN rfl) rfl rfl rfl rfl rfl rfl rfl rfl rfl rfl) rfl ?_)
      (refine nx (aA (gN rfl) rfl rfl rfl rfl rfl) rfl ?_)
      (refine nx (aA (gN rfl) rfl rfl rfl rfl rfl) rfl ?_)
      show AWp _ _ _ _ _ _ _
      refine aS (aR ?_)
      (refine nx (aM (gN rfl) rfl rfl rfl rfl rfl) rfl ?_)
      (refine nx (a_sadd (gN rfl) rfl rfl rfl rfl rfl rfl (by first | omega | (simp only [List.length_map, List.length_append, List.length_cons, List.length_nil] <;> omega) | (simp <;> omega))) rfl ?_)
      (refine nx (a_sadd (gN rfl) rfl rfl rfl rfl rfl rfl (by first | omega | (simp only [List.length_map, List.length_append, List.length_cons, List.length_nil] <;> omega) | (simp <;> omega))) rfl ?_)
      (refine nx (a_call (gN rfl) rfl rfl rfl rfl rfl (c2)) rfl ?_)
      (refine nx (aM (gN rfl) rfl rfl rfl rfl rfl) rfl ?_)
      (refine nx (aX (gN rfl) rfl rfl rfl rfl rfl rfl) rfl ?_)
      (refine nx (aX (gN rfl) rfl rfl rfl rfl rfl rfl) rfl ?_)
      (refine nx (aX (gN rfl) rfl rfl rfl rfl rfl rfl) rfl ?_)
      (refine nx (a_alloc (gN rfl) rfl rfl rfl rfl rfl rfl rfl rfl rfl rfl) rfl ?_)
      (refine nx (aSt (gN rfl) rfl rfl rfl rfl rfl rfl rfl rfl rfl rfl) rfl ?_)
      (refine nx (aA (gN rfl) rfl rfl rfl rfl rfl) rfl ?_)
      (refine nx (aA (gN rfl) rfl rfl rfl rfl rfl) rfl ?_)
      show AWp _ _ _ _ _ _ _
      refine AWp.wk (wk_sub (s' := [(0, .val (sv a)), (1, .val (sv b)), (5, .bp 5 0 []), (100005, .bx (sgv r.1)), (6, .val (.lst (r.2.1.map lcv))), (7, .val (.sc (.int .u8 r.2.2))), (8, .bp 8 0 []), (100008, .bx (sgv r.1)), (9, .val (.lst (r.2.1.map lcv))), (10, .val (.sc (.int .u8 r.2.2)))]) ⟨rfl, rfl, rfl, rfl, rfl, rfl, rfl, rfl, rfl, rfl, trivial⟩) ?_
      have g1 : decide (r.2.2 ≠ r.2.2) = false := by simp
      have g2 : decide (((r.2.1.map lcv).length : Int) ≠ ((r.2.1.map lcv).length : Int)) = false := by simp
      refine aS (aS (aD (by kernel_rfl) (by kernel_rfl) ?_))
      (refine nx (aM (gN rfl) rfl rfl rfl rfl rfl) rfl ?_)
      (refine nx (aM (gN rfl) rfl rfl rfl rfl rfl) rfl ?_)
      (refine nx (a_neq (gN rfl) rfl rfl rfl rfl rfl rfl) rfl ?_)
      (refine nx (aM (gN rfl) rfl rfl rfl rfl rfl) rfl ?_)
      (refine nx (aM (gd_on rfl rfl rfl rfl (by first | rfl | assumption | (simp; done))) rfl rfl rfl rfl rfl) rfl ?_)
      (refine nx (a_len (gd_on rfl rfl rfl rfl (by first | rfl | assumption | (simp; done))) rfl rfl rfl rfl rfl rfl rfl) rfl ?_)
      (refine nx (aM (gd_on rfl rfl rfl rfl (by first | rfl | assumption | (simp; done))) rfl rfl rfl rfl rfl) rfl ?_)
      (refine nx (a_len (gd_on rfl rfl rfl rfl (by first | rfl | assumption | (simp; done))) rfl rfl rfl rfl rfl rfl rfl) rfl ?_)
      (refine nx (a_neq (gd_on rfl rfl rfl rfl (by first | rfl | assumption | (simp; done))) rfl rfl rfl rfl rfl rfl) rfl ?_)
      (refine ⟨_, _, _, aPf (gN rfl) rfl rfl rfl rfl rfl ?hb rfl, rfl, ?_⟩; case hb => (first | rfl | assumption | (simp; done)))
      (refine nx (aM (gN rfl) rfl rfl rfl rfl rfl) rfl ?_)
      (refine nx (aL (gd_on rfl rfl rfl rfl (by first | rfl | assumption | (simp; done))) rfl rfl rfl rfl rfl rfl rfl rfl rfl rfl rfl rfl) rfl ?_)
      (refine nx (a_call (gd_on rfl rfl rfl rfl (by first | rfl | assumption | (simp; done))) rfl rfl rfl rfl rfl (t1)) rfl ?_)
      (refine nx (aL (gd_on rfl rfl rfl rfl (by first | rfl | assumption | (simp; done))) rfl rfl rfl rfl rfl rfl rfl rfl rfl rfl rfl rfl) rfl ?_)
      (refine nx (a_call (gd_on rfl rfl rfl rfl (by first | rfl | assumption | (simp; done))) rfl rfl rfl rfl rfl (t1)) rfl ?_)
      (refine nx (a_call (gd_on rfl rfl rfl rfl (by first | rfl | assumption | (simp; done))) rfl rfl rfl rfl rfl (t2)) rfl ?_)
      (refine nx (a_not (gd_on rfl rfl rfl rfl (by first | rfl | assumption | (simp; done))) rfl rfl rfl rfl rfl) rfl ?_)
      (refine ⟨_, _, _, aPf (gN rfl) rfl rfl rfl rfl rfl ?hb rfl, rfl, ?_⟩; case hb => (first | rfl | assumption | (simp; done)))
      refine ⟨by kernel_rfl, ?_⟩
      show AWp _ _ _ _ _ _ _
      refine aC rfl (fun hc => by cases hc) (fun hc => aK ?_)
      show AWp _ _ _ _ _ _ _
      refine AWp.wk (wk_sub (s' := [(0, .val (sv a)), (1, .val (sv b)), (6, .val (.lst (r.2.1.map lcv))), (7, .val (.sc (.int .u8 r.2.2)))]) ⟨rfl, rfl, rfl, rfl, trivial⟩) ?_
      refine aS (aR ?_)
      (refine nx (aM (gN rfl) rfl rfl rfl rfl rfl) rfl ?_)
      (refine nx (a_sadd (gN rfl) rfl rfl rfl rfl rfl rfl (by first | omega | (simp only [List.length_map, List.length_append, List.length_cons, List.length_nil] <;> omega) | (simp <;> omega))) rfl ?_)
      (refine nx (aM (gN rfl) rfl rfl rfl rfl rfl) rfl ?_)
      (refine nx (a_sadd (gN rfl) rfl rfl rfl rfl rfl rfl (by first | omega | (simp only [List.length_map, List.length_append, List.length_cons, List.length_nil] <;> omega) | (simp <;> omega))) rfl ?_)
      (refine nx (a_call (gN rfl) rfl rfl rfl rfl rfl (c3)) rfl ?_)
      (refine nx (aM (gN rfl) rfl rfl rfl rfl rfl) rfl ?_)
      (refine nx (aX (gN rfl) rfl rfl rfl rfl rfl rfl) rfl ?_)
      (refine nx (aX (gN rfl) rfl rfl rfl rfl rfl rfl) rfl ?_)
      (refine nx (aX (gN rfl) rfl rfl rfl rfl rfl rfl) rfl ?_)
      (refine nx (a_alloc (gN rfl) rfl rfl rfl rfl rfl rfl rfl rfl rfl rfl) rfl ?_)
      (refine nx (aSt (gN rfl) rfl rfl rfl rfl rfl rfl rfl rfl rfl rfl) rfl ?_)
      (refine nx (aA (gN rfl) rfl rfl rfl rfl rfl) rfl ?_)
      (refine nx (aA (gN rfl) rfl rfl rfl rfl rfl) rfl ?_)
      show AWp _ _ _ _ _ _ _
      refine AWp.wk (wk_sub (s' := [(1, .val (sv b)), (6, .val (.lst (r.2.1.map lcv))), (7, .val (.sc (.int .u8 r.2.2))), (12, .val (.lst (j.2.1.map lcv))), (13, .val (.sc (.int .u8 j.2.2)))]) ⟨rfl, rfl, rfl, rfl, rfl, trivial⟩) ?_
      refine aS (aS (aR ?_))
      (refine nx (aM (gN rfl) rfl rfl rfl rfl rfl) rfl ?_)
      (refine nx (a_conv (gN rfl) rfl rfl rfl rfl rfl rfl rfl (by first | rfl | (rw [IntKind.wrap_i64]; omega) | assumption)) rfl ?_)
      (refine nx (a_neq (gN rfl) rfl rfl rfl rfl rfl rfl) rfl ?_)
      show AWp _ _ _ _ _ _ _
      refine aC rfl (fun hc => ?_) (fun hc => aK ?_)
      · refine aS (aR ?_)
        (refine nx (aA (gN rfl) rfl rfl rfl rfl rfl) rfl ?_)
        show AWp _ _ _ _ _ _ _
        exact aT (And.intro (.inr rfl) rfl)
      · have ej : j.2.2 = 0 := by
          have hc : decide (j.2.2 ≠ 0) = false := hc
          simpa using hc
        show AWp _ _ _ _ _ _ _
        refine aS (aR ?_)
        (refine nx (aM (gN rfl) rfl rfl rfl rfl rfl) rfl ?_)
        (refine nx (a_call (gN rfl) rfl rfl rfl rfl rfl (c4)) rfl ?_)
        (refine nx (aM (gN rfl) rfl rfl rfl rfl rfl) rfl ?_)
        (refine nx (aX (gN rfl) rfl rfl rfl rfl rfl rfl) rfl ?_)
        (refine nx (aX (gN rfl) rfl rfl rfl rfl rfl rfl) rfl ?_)
        (refine nx (aX (gN rfl) rfl rfl rfl rfl rfl rfl) rfl ?_)
        (refine nx (a_alloc (gN rfl) rfl rfl rfl rfl rfl rfl rfl rfl rfl rfl) rfl ?_)
        (refine nx (aSt (gN rfl) rfl rfl rfl rfl rfl rfl rfl rfl rfl rfl) rfl ?_)
        (refine nx (aA (gN rfl) rfl rfl rfl rfl rfl) rfl ?_)
        (refine nx (aA (gN rfl) rfl rfl rfl rfl rfl) rfl ?_)
        show AWp _ _ _ _ _ _ _
        refine AWp.wk (wk_sub (s' := [(6, .val (.lst (r.2.1.map lcv))), (7, .val (.sc (.int .u8 r.2.2))), (12, .val (.lst (j.2.1.map lcv))), (15, .val (.lst (q.2.1.map lcv))), (16, .val (.sc (.int .u8 q.2.2)))]) ⟨rfl, rfl, rfl, rfl, rfl, trivial⟩) ?_
        refine aS (aS (aR ?_))
        (refine nx (aM (gN rfl) rfl rfl rfl rfl rfl) rfl ?_)
        (refine nx (a_conv (gN rfl) rfl rfl rfl rfl rfl rfl rfl (by first | rfl | (rw [IntKind.wrap_i64]; omega) | assumption)) rfl ?_)
        (refine nx (a_neq (gN rfl) rfl rfl rfl rfl rfl rfl) rfl ?_)
        show AWp _ _ _ _ _ _ _
        refine aC rfl (fun hc => ?_) (fun hc => aK ?_)
        · refine aS (aR ?_)
          (refine nx (aA (gN rfl) rfl rfl rfl rfl rfl) rfl ?_)
          show AWp _ _ _ _ _ _ _
          exact aT (And.intro (.inr rfl) rfl)
        · have er : r.2.2 = 0 := by
            have hc : decide (r.2.2 ≠ 0) = false := hc
            simpa using hc
          obtain ⟨eq, d, d1, d2⟩ := two_parse hr hj hq er ej
          obtain ⟨rs, rc, re⟩ := r
          obtain ⟨js, jc, je⟩ := j
          obtain ⟨qs, qc, qe⟩ := q
          simp only at er ej eq d1 d2 hro yr yj yq xr xj xq
          subst er
          subst ej
          subst eq
          subst d1
          simp only
          have n1 : ((rc ++ d).map lcv).length = rc.length + d.length := by rw [List.length_map, List.length_append]
          have n2 : (rc.map lcv).length = rc.length := List.length_map _
          have n3 : (qc.map lcv).length = qc.length := List.length_map _
          have g3 : decide ((((rc ++ d).map lcv).length : Int) ≠ ((rc.map lcv).length : Int) + ((qc.map lcv).length : Int)) = false := by
            rw [n1, n2, n3, d2]
            simp
          show AWp _ _ _ _ _ _ _
          refine AWp.wk (wk_sub (s' := [(6, .val (.lst (rc.map lcv))), (12, .val (.lst ((rc ++ d).map lcv))), (15, .val (.lst (qc.map lcv))), (16, .val (.sc (.int .u8 0)))]) ⟨rfl, rfl, rfl, rfl, trivial⟩) ?_
          refine aS (aS (aR ?_))
          (refine nx (aM (gN rfl) rfl rfl rfl rfl rfl) rfl ?_)
          (refine nx (a_conv (gN rfl) rfl rfl rfl rfl rfl rfl rfl (by first | rfl | (rw [IntKind.wrap_i64]; omega) | assumption)) rfl ?_)
          (refine nx (a_neq (gN rfl) rfl rfl rfl rfl rfl rfl) rfl ?_)
          (refine nx (aM (gN rfl) rfl rfl rfl rfl rfl) rfl ?_)
          (refine nx (aM (gd_on rfl rfl rfl rfl (by first | rfl | assumption | (simp; done))) rfl rfl rfl rfl rfl) rfl ?_)
          (refine nx (a_len (gd_on rfl rfl rfl rfl (by first | rfl | assumption | (simp; done))) rfl rfl rfl rfl rfl rfl rfl) rfl ?_)
          (refine nx (aM (gd_on rfl rfl rfl rfl (by first | rfl | assumption | (simp; done))) rfl rfl rfl rfl rfl) rfl ?_)
          (refine nx (a_len (gd_on rfl rfl rfl rfl (by first | rfl | assumption | (simp; done))) rfl rfl rfl rfl rfl rfl rfl) rfl ?_)
          (refine nx (aM (gd_on rfl rfl rfl rfl (by first | rfl | assumption | (simp; done))) rfl rfl rfl rfl rfl) rfl ?_)
          (refine nx (a_len (gd_on rfl rfl rfl rfl (by first | rfl | assumption | (simp; done))) rfl rfl rfl rfl rfl rfl rfl) rfl ?_)
          (refine nx (a_add (gd_on rfl rfl rfl rfl (by first | rfl | assumption | (simp; done))) rfl rfl rfl rfl rfl rfl (by first | omega | (simp only [List.length_map, List.length_append, List.length_cons, List.length_nil] <;> omega) | (simp <;> omega))) rfl ?_)
          (refine nx (a_neq (gd_on rfl rfl rfl rfl (by first | rfl | assumption | (simp; done))) rfl rfl rfl rfl rfl rfl) rfl ?_)
          (refine ⟨_, _, _, aPf (gN rfl) rfl rfl rfl rfl rfl ?hb rfl, rfl, ?_⟩; case hb => (first | rfl | assumption | (simp; done)))
          show AWp _ _ _ _ _ _ _
          refine aC rfl (fun hc => by
            have hc : decide ((((rc ++ d).map lcv).length : Int) ≠ ((rc.map lcv).length : Int) + ((qc.map lcv).length : Int)) = true := hc
            rw [g3] at hc
            cases hc) (fun hc => aK ?_)
          show AWp _ _ _ _ _ _ _
          have z1 := lcv_size rc
          have z2 := lcv_size (rc ++ d)
          refine aS (aS (aR ?_))
          (refine nx (aA (gN rfl) rfl rfl rfl rfl rfl) rfl ?_)
          show AWp _ _ _ _ _ _ _
          refine aB (awp_count rc.length (fun k => [(6, .val (.lst (rc.map lcv))), (12, .val (.lst ((rc ++ d).map lcv))), (17, .val (.i (k : Int)))]) (wk_sub ⟨rfl, rfl, rfl, trivial⟩) ?_)
          intro k hk
          refine aS (aS (aR ?_))
          (refine nx (aM (gN rfl) rfl rfl rfl rfl rfl) rfl ?_)
          (refine nx (aM (gN rfl) rfl rfl rfl rfl rfl) rfl ?_)
          (refine nx (a_len (gN rfl) rfl rfl rfl rfl rfl rfl rfl) rfl ?_)
          (refine nx (a_lss (gN rfl) rfl rfl rfl rfl rfl rfl) rfl ?_)
          show AWp _ _ _ _ _ _ _
          refine aC rfl (fun hlt => ?_) (fun hlt => ?_)
          · have hkl : k < rc.length := by
              have : (k : Int) < ((rc.map lcv).length : Int) := by simpa using hlt
              omega
            obtain ⟨x, hx⟩ : ∃ x, rc[k]? = some x := ⟨rc[k], List.getElem?_eq_getElem hkl⟩
            have hx1 : (rc.map lcv)[k]? = some (lcv x) := by rw [List.getElem?_map, hx]; rfl
            have hx2 : ((rc ++ d).map lcv)[k]? = some (lcv x) := by rw [List.getElem?_map, List.getElem?_append_left hkl, hx]; rfl
            obtain ⟨x1, x2, _⟩ := hro x (List.mem_of_getElem? hx)
            have ht := to11_abs w x x1 x2
            have sok : ∀ l ∈ x.map Lt.strip, l.a.ok ∧ l.b.ok := fun l hl => by
              obtain ⟨y, hy, rfl⟩ := List.mem_map.1 hl
              exact ⟨Tm.strip_ok (x2 y hy).1, Tm.strip_ok (x2 y hy).2⟩
            have hs := same11_abs w (x.map Lt.strip) (x.map Lt.strip) (by rw [List.length_map]; exact x1) sok sok
            rw [sameC_iff.2 rfl] at hs
            refine aK ?_
            show AWp _ _ _ _ _ _ _
            refine aS (aB (aS (aD (by kernel_rfl) (by kernel_rfl) ?_)))
            (refine nx (aM (gN rfl) rfl rfl rfl rfl rfl) rfl ?_)
            (refine nx (aM (gN rfl) rfl rfl rfl rfl rfl) rfl ?_)
            (refine nx (a_index (j := k) (gN rfl) rfl rfl rfl rfl rfl rfl rfl rfl rfl (hx2) rfl (z2)) rfl ?_)
            (refine nx (a_load_ad (gN rfl) rfl rfl rfl rfl rfl rfl rfl rfl rfl) rfl ?_)
            (refine nx (a_call (gN rfl) rfl rfl rfl rfl rfl (ht)) rfl ?_)
            (refine nx (aM (gN rfl) rfl rfl rfl rfl rfl) rfl ?_)
            (refine nx (aM (gN rfl) rfl rfl rfl rfl rfl) rfl ?_)
            (refine nx (a_index (j := k) (gN rfl) rfl rfl rfl rfl rfl rfl rfl rfl rfl (hx1) rfl (z1)) rfl ?_)
            (refine nx (a_load_ad (gN rfl) rfl rfl rfl rfl rfl rfl rfl rfl rfl) rfl ?_)
            (refine nx (a_call (gN rfl) rfl rfl rfl rfl rfl (ht)) rfl ?_)
            (refine nx (a_call (gN rfl) rfl rfl rfl rfl rfl (hs)) rfl ?_)
            (refine nx (a_not (gN rfl) rfl rfl rfl rfl rfl) rfl ?_)
            refine ⟨by kernel_rfl, ?_⟩
            show AWp _ _ _ _ _ _ _
            refine aC rfl (fun hc => by cases hc) (fun hc => aK ?_)
            show AWp _ _ _ _ _ _ _
            refine aR ?_
            (refine nx (aM (gN rfl) rfl rfl rfl rfl rfl) rfl ?_)
            (refine nx (a_add (gN rfl) rfl rfl rfl rfl rfl rfl (by first | omega | (simp only [List.length_map, List.length_append, List.length_cons, List.length_nil] <;> omega) | (simp <;> omega))) rfl ?_)
            (refine nx (aA (gN rfl) rfl rfl rfl rfl rfl) rfl ?_)
            refine ⟨hkl, wk_sub ⟨rfl, rfl, rfl, trivial⟩⟩
          · refine aE ?_
            show AWp _ _ _ _ _ _ _
            refine aS (aR ?_)
            (refine nx (aA (gN rfl) rfl rfl rfl rfl rfl) rfl ?_)
            show AWp _ _ _ _ _ _ _
            exact aT (And.intro (.inr rfl) rfl)
end Go.Proofs.YtgpnomjjjlomhaaDoor

