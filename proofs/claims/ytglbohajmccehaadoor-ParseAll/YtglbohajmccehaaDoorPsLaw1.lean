/-
  ParseAll.
-/
import Derived.Test.YtglbohajmccehaaDoorMg5
import Derived.Test.YtglbohajmccehaaDoorMg8
-- @STR@
namespace Go.Proofs.YtglbohajmccehaaDoor
open Go.RowKit
set_option linter.unusedVariables false
set_option linter.unusedSimpArgs false
set_option maxRecDepth 100000

theorem prF_err1 {n : Nat} {src : By} {r : Sg × List (List Lt) × Int} (h : prF n src = some r) : 0 ≤ r.2.2 ∧ r.2.2 ≤ 9 := by
  unfold prF at h
  split at h
  · cases h; exact ⟨by decide, by decide⟩
  · split at h
    · cases h
    · split at h
      · split at h
        · cases h
        · split at h
          · cases h; exact ⟨Int.le_refl _, by show (0 : Int) ≤ 9; decide⟩
          · cases h; exact ⟨by show (0 : Int) ≤ 7; decide, by show (7 : Int) ≤ 9; decide⟩
      · cases h; exact ⟨by decide, by decide⟩
theorem prF_sig1 {n : Nat} {src : By} {r : Sg × List (List Lt) × Int} (h : prF n src = some r) : r.1.ar.length = r.1.nm.length ∧ r.1.pr.length = r.1.nm.length ∧ r.1.nm.length ≤ 1000000 := by
  by_cases he : r.2.2 = 0
  · obtain ⟨_, cs, q, _, _, h3, h4, h5, _⟩ := prF_ok h he
    obtain ⟨p1, _⟩ := mnF_p cs nm0 [] q nm0_p (fun c hc => by cases hc) h3 h4
    obtain ⟨q', k1, _, k3, _⟩ := mnF_rl cs nm0 nm0 [] [] q Rl.zero h3 h4
    rw [h5]
    exact ⟨p1.la, p1.lp, by have := k3.few; exact Nat.le_trans this (by decide)⟩
  · obtain ⟨_, e⟩ := prF_nil h he
    rw [e]
    exact ⟨rfl, rfl, Nat.zero_le _⟩
theorem prF_len1 {n : Nat} {src : By} {r : Sg × List (List Lt) × Int} (h : prF n src = some r) : r.2.1.length ≤ 64 := by
  by_cases he : r.2.2 = 0
  · obtain ⟨_, cs, q, _, h2, h3, h4, _, h6⟩ := prF_ok h he
    obtain ⟨d, d1, d2⟩ := mnF_acc cs nm0 [] q h3 h4
    rw [h6, d1, List.nil_append, d2]
    exact h2
  · rw [(prF_nil h he).1]
    exact Nat.zero_le _
-- 
set_option maxHeartbeats 16000000 in
theorem parseAll_abs (W : World) (a : By) (ha : a.length ≤ 9223372036854775807) : AFun Tryd.prog W 3 [sv a] (.val (.b true)) := by
  refine afun_of (rs := [.b true]) Tryd.func3 Tryd.ntmps3 rfl rfl rfl rfl ?_
  intro w U hW
  have h0 := alive12_abs w
  obtain ⟨r, hr⟩ := prF_some a
  have c1 := parse_abs w 65600 a r ha hr
  have c2 := docParse_abs w a r ha hr
  obtain ⟨s1, s2, s3⟩ := prF_sig1 hr
  have t1 := to12_abs w r.1
  have t2 := sameSig_abs w r.1 s1 s2 s3
  have xr := prF_err1 hr
  have yr := prF_len1 hr
  have hro := prF_g hr
  have b1 := startP_abs w
  have b2 := start12_abs w
  have b3 := to12_abs w sg0
  have b4 := sameSig_abs w sg0 rfl rfl (by decide)
  refine aS (aR ?_)
  (refine nx (aA (gN rfl) rfl rfl rfl rfl rfl) rfl ?_)
  show AWp _ _ _ _ _ _ _
  refine aS (aS (aR ?_))
  (refine nx (a_call (gN rfl) rfl rfl rfl rfl rfl (h0)) rfl ?_)
  (refine nx (a_not (gN rfl) rfl rfl rfl rfl rfl) rfl ?_)
  show AWp _ _ _ _ _ _ _
  refine aC rfl (fun hc => by cases hc) (fun hc => aK ?_)
  show AWp _ _ _ _ _ _ _
  refine AWp.wk (wk_sub (s' := [(0, .val (sv a))]) ⟨rfl, trivial⟩) ?_
  refine awp_mid12 (Sg := Unit) (fun _ => True) (fun _ => [(0, .val (sv a))]) ?_ ?_
  · cases hl : decide ((a.length : Int) > 3000) with
    | true =>
      refine aS (aR ?_)
      (refine nx (aM (gN rfl) rfl rfl rfl rfl rfl) rfl ?_)
      (refine nx (a_slen (gN rfl) rfl rfl rfl rfl rfl rfl rfl) rfl ?_)
      (refine nx (a_gtr (gN rfl) rfl rfl rfl rfl rfl rfl) rfl ?_)
      (refine nx (aM (gN rfl) rfl rfl rfl rfl rfl) rfl ?_)
      (refine nx (aM (gd_on rfl rfl rfl rfl (by first | rfl | assumption | (simp; done))) rfl rfl rfl rfl rfl) rfl ?_)
      (refine nx (a_slen (gd_on rfl rfl rfl rfl (by first | rfl | assumption | (simp; done))) rfl rfl rfl rfl rfl rfl rfl) rfl ?_)
      (refine nx (a_leq (gd_on rfl rfl rfl rfl (by first | rfl | assumption | (simp; done))) rfl rfl rfl rfl rfl rfl) rfl ?_)
      (refine ⟨_, _, _, aPt (gN rfl) rfl rfl rfl rfl rfl ?hb rfl, rfl, ?_⟩; case hb => (first | rfl | assumption | (simp; done)))
      show AWp _ _ _ _ _ _ _
      refine aC rfl (fun hc => ?_) (fun hc => aK ?_)
      · refine aS (aR ?_)
        (refine nx (aA (gN rfl) rfl rfl rfl rfl rfl) rfl ?_)
        show AWp _ _ _ _ _ _ _
        exact aT (And.intro (.inr rfl) rfl)
      · exact ⟨(), trivial, wk_sub ⟨rfl, trivial⟩⟩
    | false =>
      refine aS (aR ?_)
      (refine nx (aM (gN rfl) rfl rfl rfl rfl rfl) rfl ?_)
      (refine nx (a_slen (gN rfl) rfl rfl rfl rfl rfl rfl rfl) rfl ?_)
      (refine nx (a_gtr (gN rfl) rfl rfl rfl rfl rfl rfl) rfl ?_)
      (refine nx (aM (gN rfl) rfl rfl rfl rfl rfl) rfl ?_)
      (refine ⟨_, _, _, a_off (go_off rfl rfl rfl rfl (by first | rfl | assumption | (simp; done) | (simp [*]; done))) rfl rfl rfl, rfl, ?_⟩)
      (refine ⟨_, _, _, a_off (go_off rfl rfl rfl rfl (by first | rfl | assumption | (simp; done) | (simp [*]; done))) rfl rfl rfl, rfl, ?_⟩)
      (refine ⟨_, _, _, a_off (go_off rfl rfl rfl rfl (by first | rfl | assumption | (simp; done) | (simp [*]; done))) rfl rfl rfl, rfl, ?_⟩)
      (refine ⟨_, _, _, aPf (gN rfl) rfl rfl rfl rfl rfl ?hb rfl, rfl, ?_⟩; case hb => (first | rfl | assumption | (simp; done)))
      show AWp _ _ _ _ _ _ _
      refine aC rfl (fun hc => by cases hc) (fun hc => aK ?_)
      exact ⟨(), trivial, wk_sub ⟨rfl, trivial⟩⟩
  · rintro _ _
    show AWp _ _ _ _ _ _ _
    refine aS (aR ?_)
    (refine nx (aM (gN rfl) rfl rfl rfl rfl rfl) rfl ?_)
    (refine nx (a_call (gN rfl) rfl rfl rfl rfl rfl (c1)) rfl ?_)
    (refine nx (aM (gN rfl) rfl rfl rfl rfl rfl) rfl ?_)
    (refine nx (aX (gN rfl) rfl rfl rfl rfl rfl rfl) rfl ?_)
    (refine nx (aX (gN rfl) rfl rfl rfl rfl rfl rfl) rfl ?_)
    (refine nx (aX (gN rfl) rfl rfl rfl rfl rfl rfl) rfl ?_)
    (refine nx (a_alloc (gN rfl) rfl rfl rfl rfl rfl rfl rfl rfl rfl rfl) rfl ?_)
    (refine nx (aSt (gN rfl) rfl rfl rfl rfl rfl rfl rfl rfl rfl rfl) rfl ?_)
    (refine nx (aA (gN rfl) rfl rfl rfl rfl rfl) rfl ?_)
    (refine nx (aA (gN rfl) rfl rfl rfl rfl rfl) rfl ?_)
    show AWp _ _ _ _ _ _ _
    refine aS (aR ?_)
    (refine nx (aM (gN rfl) rfl rfl rfl rfl rfl) rfl ?_)
    (refine nx (a_call (gN rfl) rfl rfl rfl rfl rfl (c2)) rfl ?_)
    (refine nx (aM (gN rfl) rfl rfl rfl rfl rfl) rfl ?_)
    (refine nx (aX (gN rfl) rfl rfl rfl rfl rfl rfl) rfl ?_)
    (refine nx (aX (gN rfl) rfl rfl rfl rfl rfl rfl) rfl ?_)
    (refine nx (aX (gN rfl) rfl rfl rfl rfl rfl rfl) rfl ?_)
    (refine nx (a_alloc (gN rfl) rfl rfl rfl rfl rfl rfl rfl rfl rfl rfl) rfl ?_)
    (refine nx (aSt (gN rfl) rfl rfl rfl rfl rfl rfl rfl rfl rfl rfl) rfl ?_)
    (refine nx (aA (gN rfl) rfl rfl rfl rfl rfl) rfl ?_)
    (refine nx (aA (gN rfl) rfl rfl rfl rfl rfl) rfl ?_)
    show AWp _ _ _ _ _ _ _
    refine AWp.wk (wk_sub (s' := [(3, .bp 3 0 []), (100003, .bx (sgv r.1)), (4, .val (.lst (r.2.1.map lcv))), (5, .val (.sc (.int .u8 r.2.2))), (6, .bp 6 0 []), (100006, .bx (sgv r.1)), (7, .val (.lst (r.2.1.map lcv))), (8, .val (.i r.2.2))]) ⟨rfl, rfl, rfl, rfl, rfl, rfl, rfl, rfl, trivial⟩) ?_
    have g1 : decide (r.2.2 ≠ r.2.2) = false := by simp
    have g2 : decide (((r.2.1.map lcv).length : Int) ≠ ((r.2.1.map lcv).length : Int)) = false := by simp
    refine aS (aS (aD (by kernel_rfl) (by kernel_rfl) ?_))
    (refine nx (aM (gN rfl) rfl rfl rfl rfl rfl) rfl ?_)
    (refine nx (a_conv (gN rfl) rfl rfl rfl rfl rfl rfl rfl (by first | rfl | (rw [IntKind.wrap_i64]; omega) | assumption)) rfl ?_)
    (refine nx (aM (gN rfl) rfl rfl rfl rfl rfl) rfl ?_)
    (refine nx (a_neq (gN rfl) rfl rfl rfl rfl rfl rfl) rfl ?_)
    (refine nx (aM (gN rfl) rfl rfl rfl rfl rfl) rfl ?_)
    (refine nx (aL (gd_on rfl rfl rfl rfl (by first | rfl | assumption | (simp; done))) rfl rfl rfl rfl rfl rfl rfl rfl rfl rfl rfl rfl) rfl ?_)
    (refine nx (a_call (gd_on rfl rfl rfl rfl (by first | rfl | assumption | (simp; done))) rfl rfl rfl rfl rfl (t1)) rfl ?_)
    (refine nx (aL (gd_on rfl rfl rfl rfl (by first | rfl | assumption | (simp; done))) rfl rfl rfl rfl rfl rfl rfl rfl rfl rfl rfl rfl) rfl ?_)
    (refine nx (a_call (gd_on rfl rfl rfl rfl (by first | rfl | assumption | (simp; done))) rfl rfl rfl rfl rfl (t2)) rfl ?_)
    (refine nx (a_not (gd_on rfl rfl rfl rfl (by first | rfl | assumption | (simp; done))) rfl rfl rfl rfl rfl) rfl ?_)
    (refine ⟨_, _, _, aPf (gN rfl) rfl rfl rfl rfl rfl ?hb rfl, rfl, ?_⟩; case hb => (first | rfl | assumption | (simp; done)))
    (refine nx (aM (gN rfl) rfl rfl rfl rfl rfl) rfl ?_)
    (refine nx (aM (gd_on rfl rfl rfl rfl (by first | rfl | assumption | (simp; done))) rfl rfl rfl rfl rfl) rfl ?_)
    (refine nx (a_len (gd_on rfl rfl rfl rfl (by first | rfl | assumption | (simp; done))) rfl rfl rfl rfl rfl rfl rfl) rfl ?_)
    (refine nx (aM (gd_on rfl rfl rfl rfl (by first | rfl | assumption | (simp; done))) rfl rfl rfl rfl rfl) rfl ?_)
    (refine nx (a_len (gd_on rfl rfl rfl rfl (by first | rfl | assumption | (simp; done))) rfl rfl rfl rfl rfl rfl rfl) rfl ?_)
    (refine nx (a_neq (gd_on rfl rfl rfl rfl (by first | rfl | assumption | (simp; done))) rfl rfl rfl rfl rfl rfl) rfl ?_)
    (refine ⟨_, _, _, aPf (gN rfl) rfl rfl rfl rfl rfl ?hb rfl, rfl, ?_⟩; case hb => (first | rfl | assumption | (simp; done)))
    refine ⟨by kernel_rfl, ?_⟩
    show AWp _ _ _ _ _ _ _
    refine aC rfl (fun hc => by
      first
      | cases hc
      | have hc : decide (((r.2.1.map lcv).length : Int) ≠ ((r.2.1.map lcv).length : Int)) = true := hc
        rw [g2] at hc
        cases hc) (fun hc => aK ?_)
    obtain ⟨rs, rc, re⟩ := r
    simp only at s1 s2 s3 xr yr hro t1 t2
    have z1 := lcv_size rc
    show AWp _ _ _ _ _ _ _
    refine AWp.wk (wk_sub (s' := [(4, .val (.lst (rc.map lcv))), (7, .val (.lst (rc.map lcv)))]) ⟨rfl, rfl, trivial⟩) ?_
    refine aS (aS (aR ?_))
    (refine nx (aA (gN rfl) rfl rfl rfl rfl rfl) rfl ?_)
    show AWp _ _ _ _ _ _ _
    refine aB (awp_count rc.length (fun k => [(4, .val (.lst (rc.map lcv))), (7, .val (.lst (rc.map lcv))), (9, .val (.i (k : Int)))]) (wk_sub ⟨rfl, rfl, rfl, trivial⟩) ?_)
    intro k hk
    refine aS (aS (aR ?_))
    (refine nx (aM (gN rfl) rfl rfl rfl rfl rfl) rfl ?_)
    (refine nx (aM (gN rfl) rfl rfl rfl rfl rfl) rfl ?_)
    (refine nx (a_len (gN rfl) rfl rfl rfl rfl rfl rfl rfl) rfl ?_)
    (refine nx (a_lss (gN rfl) rfl rfl rfl rfl rfl rfl) rfl ?_)
    show AWp _ _ _ _ _ _ _
    refine aC rfl (fun hlt => ?_) (fun hlt => ?_)
    · have hkl : k < rc.length := by
        have : (k : Int) < ((rc.map lcv).length : Int) := by simpa using hlt
        rw [List.length_map] at this
        omega
      obtain ⟨x, hx⟩ : ∃ x, rc[k]? = some x := ⟨rc[k], List.getElem?_eq_getElem hkl⟩
      have hx1 : (rc.map lcv)[k]? = some (lcv x) := by rw [List.getElem?_map, hx]; rfl
      obtain ⟨x1, x2, _⟩ := hro x (List.mem_of_getElem? hx)
      have ht := to11_abs w x x1 x2
      have sok : ∀ l ∈ x.map Lt.strip, l.a.ok ∧ l.b.ok := fun l hl => by
        obtain ⟨y, hy, rfl⟩ := List.mem_map.1 hl
        exact ⟨Tm.strip_ok (x2 y hy).1, Tm.strip_ok (x2 y hy).2⟩
      have hs := same11_abs w (x.map Lt.strip) x (by rw [List.length_map]; exact x1) sok x2
      rw [sameC_iff.2 (by rw [List.map_map]; exact List.map_congr_left fun y _ => by show Lt.strip (Lt.strip y) = _; unfold Lt.strip; rw [Tm.strip_strip, Tm.strip_strip])] at hs
      refine aK ?_
      show AWp _ _ _ _ _ _ _
      refine aS (aB (aS (aD (by kernel_rfl) (by kernel_rfl) ?_)))
      (refine nx (aM (gN rfl) rfl rfl rfl rfl rfl) rfl ?_)
      (refine nx (aM (gN rfl) rfl rfl rfl rfl rfl) rfl ?_)
      (refine nx (a_index (j := k) (gN rfl) rfl rfl rfl rfl rfl rfl rfl rfl rfl (hx1) rfl (z1)) rfl ?_)
      (refine nx (a_load_ad (gN rfl) rfl rfl rfl rfl rfl rfl rfl rfl rfl) rfl ?_)
      (refine nx (a_call (gN rfl) rfl rfl rfl rfl rfl (ht)) rfl ?_)
      (refine nx (aM (gN rfl) rfl rfl rfl rfl rfl) rfl ?_)
      (refine nx (aM (gN rfl) rfl rfl rfl rfl rfl) rfl ?_)
      (refine nx (a_index (j := k) (gN rfl) rfl rfl rfl rfl rfl rfl rfl rfl rfl (hx1) rfl (z1)) rfl ?_)
      (refine nx (a_load_ad (gN rfl) rfl rfl rfl rfl rfl rfl rfl rfl rfl) rfl ?_)
      (refine nx (a_call (gN rfl) rfl rfl rfl rfl rfl (hs)) rfl ?_)
      (refine nx (a_not (gN rfl) rfl rfl rfl rfl rfl) rfl ?_)
      refine ⟨by kernel_rfl, ?_⟩
      show AWp _ _ _ _ _ _ _
      refine aC rfl (fun hc => by cases hc) (fun hc => aK ?_)
      show AWp _ _ _ _ _ _ _
      refine aR ?_
      (refine nx (aM (gN rfl) rfl rfl rfl rfl rfl) rfl ?_)
      (refine nx (a_add (gN rfl) rfl rfl rfl rfl rfl rfl (by first | omega | (simp only [List.length_map, List.length_append, List.length_cons, List.length_nil] <;> omega) | (simp <;> omega))) rfl ?_)
      (refine nx (aA (gN rfl) rfl rfl rfl rfl rfl) rfl ?_)
      refine ⟨hkl, wk_sub ⟨rfl, rfl, rfl, trivial⟩⟩
    · refine aE ?_
      show AWp _ _ _ _ _ _ _
      refine aS (aR ?_)
      (refine nx (a_call (gN rfl) rfl rfl rfl rfl rfl (b1)) rfl ?_)
      (refine nx (a_call (gN rfl) rfl rfl rfl rfl rfl (b3)) rfl ?_)
      (refine nx (a_call (gN rfl) rfl rfl rfl rfl rfl (b2)) rfl ?_)
      (refine nx (a_call (gN rfl) rfl rfl rfl rfl rfl (b4)) rfl ?_)
      (refine nx (aA (gN rfl) rfl rfl rfl rfl rfl) rfl ?_)
      show AWp _ _ _ _ _ _ _
      exact aT (And.intro (.inr rfl) rfl)
end Go.Proofs.YtglbohajmccehaaDoor

