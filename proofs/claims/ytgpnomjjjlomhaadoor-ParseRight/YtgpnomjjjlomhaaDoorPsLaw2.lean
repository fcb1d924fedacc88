/-
  ParseRight.
-/
import Derived.Test.YtgpnomjjjlomhaaDoorMg4
import Derived.Test.YtgpnomjjjlomhaaDoorMg5
import Derived.Test.YtgpnomjjjlomhaaDoorAbShp
-- @STR@
namespace Go.Proofs.YtgpnomjjjlomhaaDoor
open Go.RowKit
set_option linter.unusedVariables false
set_option linter.unusedSimpArgs false
set_option maxRecDepth 100000

def oneC : List Lt := [⟨false, ⟨1, []⟩, tz⟩]
theorem one_no : rcB sgz oneC = false := by kernel_rfl
theorem prF_err {n : Nat} {src : By} {r : Sg × List (List Lt) × Int} (h : prF n src = some r) : 0 ≤ r.2.2 ∧ r.2.2 ≤ 9 := by
  unfold prF at h
  split at h
  · cases h; exact ⟨by decide, by decide⟩
  · split at h
    · cases h
    · split at h
      · split at h
        · cases h
        · split at h
          · cases h; exact ⟨Int.le_refl _, by show (0 : Int) ≤ 9; decide⟩
          · cases h; exact ⟨by show (0 : Int) ≤ 7; decide, by show (7 : Int) ≤ 9; decide⟩
      · cases h; exact ⟨by decide, by decide⟩
theorem mnF_len {n : Nat} : ∀ (cs : List (List Se)) (st : Nm) (acc : List (List Lt)) (q : Nm × List (List Lt) × Bool), mnF n st cs acc = some q → q.2.1.length ≤ acc.length + cs.length
  | [], st, acc, q, e => by
    simp only [mnF, Option.some.injEq] at e
    subst e
    exact Nat.le_add_right _ _
  | c :: cs, st, acc, q, e => by
    rw [mnF] at e
    split at e
    · cases e
    · split at e
      · have := mnF_len cs _ _ q e
        rw [List.length_append] at this
        simp only [List.length_cons, List.length_nil] at this ⊢
        omega
      · cases e; exact Nat.zero_le _
theorem prF_len {n : Nat} {src : By} {r : Sg × List (List Lt) × Int} (h : prF n src = some r) : r.2.1.length ≤ 1000000 := by
  unfold prF at h
  split at h
  · cases h; exact Nat.zero_le _
  · split at h
    · cases h
    · rename_i q hq
      split at h
      · rename_i hk
        rw [Bool.and_eq_true, decide_eq_true_eq] at hk
        split at h
        · cases h
        · rename_i m hm
          have := mnF_len _ _ _ m hm
          simp only [List.length_nil] at this
          split at h
          · cases h; show m.2.1.length ≤ _; omega
          · cases h; exact Nat.zero_le _
      · cases h; exact Nat.zero_le _
-- 
set_option maxHeartbeats 8000000 in
theorem parseRight_abs (W : World) (src : By) (c : List Lt) (hs : src.length ≤ 9223372036854775807) (hc : okC c) : AFun Tryd.prog W 4 [sv src, .lst (c.map Lt.cv)] (.val (.b true)) := by
  obtain ⟨r, hr⟩ := prF_some src
  have hro := prF_g hr
  have hrn := prF_nil hr
  have hrr := prF_right hr
  refine afun_of (rs := [.b true]) Tryd.func4 Tryd.ntmps4 rfl rfl rfl rfl ?_
  intro w U hW
  have h0 := alive12_abs w
  have h1 := parse_abs w 65600 src r hs hr
  have hfn := fine11_abs w c 6 12 (by decide) (by decide) (by decide) hc
  refine aS (aR ?_)
  (refine nx (aA (gN rfl) rfl rfl rfl rfl rfl) rfl ?_)
  show AWp _ _ _ _ _ _ _
  refine aS (aS (aR ?_))
  (refine nx (a_call (gN rfl) rfl rfl rfl rfl rfl (h0)) rfl ?_)
  (refine nx (a_not (gN rfl) rfl rfl rfl rfl rfl) rfl ?_)
  show AWp _ _ _ _ _ _ _
  refine aC rfl (fun hc => by cases hc) (fun hc => aK ?_)
  show AWp _ _ _ _ _ _ _
  refine AWp.wk (wk_sub (s' := [(0, .val (sv src)), (1, .val (.lst (c.map Lt.cv)))]) ⟨rfl, rfl, trivial⟩) ?_
  cases hl : decide ((src.length : Int) > 2000) with
  | true =>
    refine aS (aS (aR ?_))
    (refine nx (aM (gN rfl) rfl rfl rfl rfl rfl) rfl ?_)
    (refine nx (a_slen (gN rfl) rfl rfl rfl rfl rfl rfl rfl) rfl ?_)
    (refine nx (a_gtr (gN rfl) rfl rfl rfl rfl rfl rfl) rfl ?_)
    (refine nx (aM (gN rfl) rfl rfl rfl rfl rfl) rfl ?_)
    (refine ⟨_, _, _, a_off (go_off rfl rfl rfl rfl (by first | rfl | assumption | (simp; done) | (simp [*]; done))) rfl rfl rfl, rfl, ?_⟩)
    (refine ⟨_, _, _, a_off (go_off rfl rfl rfl rfl (by first | rfl | assumption | (simp; done) | (simp [*]; done))) rfl rfl rfl, rfl, ?_⟩)
    (refine ⟨_, _, _, a_off (go_off rfl rfl rfl rfl (by first | rfl | assumption | (simp; done) | (simp [*]; done))) rfl rfl rfl, rfl, ?_⟩)
    (refine ⟨_, _, _, aPt (gN rfl) rfl rfl rfl rfl rfl ?hb rfl, rfl, ?_⟩; case hb => (first | rfl | assumption | (simp; done)))
    show AWp _ _ _ _ _ _ _
    refine aC rfl (fun hc => ?_) (fun hc => by cases hc)
    refine aS (aR ?_)
    (refine nx (aA (gN rfl) rfl rfl rfl rfl rfl) rfl ?_)
    show AWp _ _ _ _ _ _ _
    exact aT (And.intro (.inr rfl) rfl)
  | false =>
    cases hf : fineC c 6 12 with
    | false =>
      rw [hf] at hfn
      refine aS (aS (aR ?_))
      (refine nx (aM (gN rfl) rfl rfl rfl rfl rfl) rfl ?_)
      (refine nx (a_slen (gN rfl) rfl rfl rfl rfl rfl rfl rfl) rfl ?_)
      (refine nx (a_gtr (gN rfl) rfl rfl rfl rfl rfl rfl) rfl ?_)
      (refine nx (aM (gN rfl) rfl rfl rfl rfl rfl) rfl ?_)
      (refine nx (aM (gd_on rfl rfl rfl rfl (by first | rfl | assumption | (simp; done))) rfl rfl rfl rfl rfl) rfl ?_)
      (refine nx (a_call (gd_on rfl rfl rfl rfl (by first | rfl | assumption | (simp; done))) rfl rfl rfl rfl rfl (hfn)) rfl ?_)
      (refine nx (a_not (gd_on rfl rfl rfl rfl (by first | rfl | assumption | (simp; done))) rfl rfl rfl rfl rfl) rfl ?_)
      (refine ⟨_, _, _, aPf (gN rfl) rfl rfl rfl rfl rfl ?hb rfl, rfl, ?_⟩; case hb => (first | rfl | assumption | (simp; done)))
      show AWp _ _ _ _ _ _ _
      refine aC rfl (fun hc => ?_) (fun hc => by cases hc)
      refine aS (aR ?_)
      (refine nx (aA (gN rfl) rfl rfl rfl rfl rfl) rfl ?_)
      show AWp _ _ _ _ _ _ _
      exact aT (And.intro (.inr rfl) rfl)
    | true =>
      rw [hf] at hfn
      obtain ⟨hc6, hcf⟩ := fineC_facts (by decide) (by decide) hf
      have hco : ∀ l ∈ c, l.a.ok ∧ l.b.ok := fun l hm => ⟨(hcf l hm).1.1.2.2, (hcf l hm).2.1.2.2⟩
      refine aS (aS (aR ?_))
      (refine nx (aM (gN rfl) rfl rfl rfl rfl rfl) rfl ?_)
      (refine nx (a_slen (gN rfl) rfl rfl rfl rfl rfl rfl rfl) rfl ?_)
      (refine nx (a_gtr (gN rfl) rfl rfl rfl rfl rfl rfl) rfl ?_)
      (refine nx (aM (gN rfl) rfl rfl rfl rfl rfl) rfl ?_)
      (refine nx (aM (gd_on rfl rfl rfl rfl (by first | rfl | assumption | (simp; done))) rfl rfl rfl rfl rfl) rfl ?_)
      (refine nx (a_call (gd_on rfl rfl rfl rfl (by first | rfl | assumption | (simp; done))) rfl rfl rfl rfl rfl (hfn)) rfl ?_)
      (refine nx (a_not (gd_on rfl rfl rfl rfl (by first | rfl | assumption | (simp; done))) rfl rfl rfl rfl rfl) rfl ?_)
      (refine ⟨_, _, _, aPf (gN rfl) rfl rfl rfl rfl rfl ?hb rfl, rfl, ?_⟩; case hb => (first | rfl | assumption | (simp; done)))
      show AWp _ _ _ _ _ _ _
      refine aC rfl (fun hc => by cases hc) (fun hc => aK ?_)
      show AWp _ _ _ _ _ _ _
      refine aS (aR ?_)
      (refine nx (aM (gN rfl) rfl rfl rfl rfl rfl) rfl ?_)
      (refine nx (a_call (gN rfl) rfl rfl rfl rfl rfl (h1)) rfl ?_)
      (refine nx (aM (gN rfl) rfl rfl rfl rfl rfl) rfl ?_)
      (refine nx (aX (gN rfl) rfl rfl rfl rfl rfl rfl) rfl ?_)
      (refine nx (aX (gN rfl) rfl rfl rfl rfl rfl rfl) rfl ?_)
      (refine nx (aX (gN rfl) rfl rfl rfl rfl rfl rfl) rfl ?_)
      (refine nx (a_alloc (gN rfl) rfl rfl rfl rfl rfl rfl rfl rfl rfl rfl) rfl ?_)
      (refine nx (aSt (gN rfl) rfl rfl rfl rfl rfl rfl rfl rfl rfl rfl) rfl ?_)
      (refine nx (aA (gN rfl) rfl rfl rfl rfl rfl) rfl ?_)
      (refine nx (aA (gN rfl) rfl rfl rfl rfl rfl) rfl ?_)
      show AWp _ _ _ _ _ _ _
      refine AWp.wk (wk_sub (s' := [(1, .val (.lst (c.map Lt.cv))), (5, .bp 5 0 []), (100005, .bx (sgv r.1)), (6, .val (.lst (r.2.1.map lcv))), (7, .val (.sc (.int .u8 r.2.2)))]) ⟨rfl, rfl, rfl, rfl, rfl, trivial⟩) ?_
      obtain ⟨rs, rc, re⟩ := r
      simp only at hro hrn hrr
      simp only
      have hre : 0 ≤ re ∧ re ≤ 9 := prF_err hr
      by_cases he : re = 0
      · subst he
        obtain ⟨g1, g2⟩ := hrr rfl
        have hlr : rc.length ≤ 1000000 := prF_len hr
        have hz := lcv_size rc
        refine aS (aS (aR ?_))
        (refine nx (aM (gN rfl) rfl rfl rfl rfl rfl) rfl ?_)
        (refine nx (a_conv (gN rfl) rfl rfl rfl rfl rfl rfl rfl (by first | rfl | (rw [IntKind.wrap_i64]; omega) | assumption)) rfl ?_)
        (refine nx (a_neq (gN rfl) rfl rfl rfl rfl rfl rfl) rfl ?_)
        show AWp _ _ _ _ _ _ _
        refine aC rfl (fun hc => by cases hc) (fun hc => aK ?_)
        show AWp _ _ _ _ _ _ _
        refine aS (aS (aR ?_))
        (refine nx (aA (gN rfl) rfl rfl rfl rfl rfl) rfl ?_)
        show AWp _ _ _ _ _ _ _
        refine aB (awp_count rc.length (fun k => [(1, .val (.lst (c.map Lt.cv))), (5, .bp 5 0 []), (100005, .bx (sgv rs)), (6, .val (.lst (rc.map lcv))), (8, .val (.i (k : Int)))]) (wk_sub ⟨rfl, rfl, rfl, rfl, rfl, trivial⟩) ?_)
        intro k hk
        refine aS (aS (aR ?_))
        (refine nx (aM (gN rfl) rfl rfl rfl rfl rfl) rfl ?_)
        (refine nx (aM (gN rfl) rfl rfl rfl rfl rfl) rfl ?_)
        (refine nx (a_len (gN rfl) rfl rfl rfl rfl rfl rfl rfl) rfl ?_)
        (refine nx (a_lss (gN rfl) rfl rfl rfl rfl rfl rfl) rfl ?_)
        show AWp _ _ _ _ _ _ _
        refine aC rfl (fun hlt => ?_) (fun hlt => ?_)
        · have hkl : k < rc.length := by simpa using hlt
          obtain ⟨x, hx⟩ : ∃ x, rc[k]? = some x := ⟨rc[k], List.getElem?_eq_getElem hkl⟩
          have hx' : (rc.map lcv)[k]? = some (lcv x) := by rw [List.getElem?_map, hx]; rfl
          have hxm := List.mem_of_getElem? hx
          obtain ⟨x1, x2, _⟩ := hro x hxm
          have hct := right_abs w rs x (by omega) x2
          rw [g1 x hxm] at hct
          refine aK ?_
          show AWp _ _ _ _ _ _ _
          refine aS (aB (aS (aD (by kernel_rfl) (by kernel_rfl) ?_)))
          (refine nx (aL (gN rfl) rfl rfl rfl rfl rfl rfl rfl rfl rfl rfl rfl rfl) rfl ?_)
          (refine nx (aM (gN rfl) rfl rfl rfl rfl rfl) rfl ?_)
          (refine nx (aM (gN rfl) rfl rfl rfl rfl rfl) rfl ?_)
          (refine nx (a_index (j := k) (gN rfl) rfl rfl rfl rfl rfl rfl rfl rfl rfl (hx') rfl (hz)) rfl ?_)
          (refine nx (a_load_ad (gN rfl) rfl rfl rfl rfl rfl rfl rfl rfl rfl) rfl ?_)
          (refine nx (a_call (gN rfl) rfl rfl rfl rfl rfl (hct)) rfl ?_)
          (refine nx (a_not (gN rfl) rfl rfl rfl rfl rfl) rfl ?_)
          refine ⟨by kernel_rfl, ?_⟩
          show AWp _ _ _ _ _ _ _
          refine aC rfl (fun hc => by cases hc) (fun hc => aK ?_)
          show AWp _ _ _ _ _ _ _
          refine aR ?_
          (refine nx (aM (gN rfl) rfl rfl rfl rfl rfl) rfl ?_)
          (refine nx (a_add (gN rfl) rfl rfl rfl rfl rfl rfl (by first | omega | (simp only [List.length_map, List.length_append, List.length_cons, List.length_nil] <;> omega) | (simp <;> omega))) rfl ?_)
          (refine nx (aA (gN rfl) rfl rfl rfl rfl rfl) rfl ?_)
          refine ⟨hkl, wk_sub ⟨rfl, rfl, rfl, rfl, rfl, trivial⟩⟩
        · refine aE ?_
          have hof := of11_abs w c (by omega) hco
          have hr1 := right_abs w rs c (by omega) hco
          have hto := to12_abs w rs
          have hr2 := right12_abs w rs c (by omega) hco
          rw [← rc_dr g2 c] at hr2
          have hr3 := right_abs w rs [] (Nat.zero_le _) (fun x hx => by cases hx)
          have hg : (rcB rs c == rcB rs c) = true := by simp
          show AWp _ _ _ _ _ _ _
          refine aS (aD (by kernel_rfl) (by kernel_rfl) ?_)
          (refine nx (aL (gN rfl) rfl rfl rfl rfl rfl rfl rfl rfl rfl rfl rfl rfl) rfl ?_)
          (refine nx (aM (gN rfl) rfl rfl rfl rfl rfl) rfl ?_)
          (refine nx (a_call (gN rfl) rfl rfl rfl rfl rfl (hof)) rfl ?_)
          (refine nx (a_call (gN rfl) rfl rfl rfl rfl rfl (hr1)) rfl ?_)
          (refine nx (aL (gN rfl) rfl rfl rfl rfl rfl rfl rfl rfl rfl rfl rfl rfl) rfl ?_)
          (refine nx (a_call (gN rfl) rfl rfl rfl rfl rfl (hto)) rfl ?_)
          (refine nx (aM (gN rfl) rfl rfl rfl rfl rfl) rfl ?_)
          (refine nx (a_call (gN rfl) rfl rfl rfl rfl rfl (hr2)) rfl ?_)
          (refine nx (a_beq (gN rfl) rfl rfl rfl rfl rfl rfl rfl) rfl ?_)
          (refine nx (aM (gN rfl) rfl rfl rfl rfl rfl) rfl ?_)
          (refine nx (aL (gd_on rfl rfl rfl rfl (by first | rfl | assumption | (simp; done))) rfl rfl rfl rfl rfl rfl rfl rfl rfl rfl rfl rfl) rfl ?_)
          (refine nx (a_call (gd_on rfl rfl rfl rfl (by first | rfl | assumption | (simp; done))) rfl rfl rfl rfl rfl (hr3)) rfl ?_)
          (refine ⟨_, _, _, aPt (gN rfl) rfl rfl rfl rfl rfl ?hb rfl, rfl, ?_⟩; case hb => (first | rfl | assumption | (simp; done)))
          (refine nx (aA (gN rfl) rfl rfl rfl rfl rfl) rfl ?_)
          refine ⟨by kernel_rfl, ?_⟩
          show AWp _ _ _ _ _ _ _
          exact aT (And.intro (.inr rfl) rfl)
      · obtain ⟨rfl, rfl⟩ := hrn he
        have hct := right_abs w sgz oneC (by decide) (fun x hx => by rw [List.mem_singleton.1 hx]; exact ⟨(Tm.ok_iff _).2 ⟨Nat.zero_le _, fun s hs => by cases hs⟩, tz_ok⟩)
        rw [one_no] at hct
        have g0 : decide (re ≠ 0) = true := decide_eq_true he
        refine aS (aS (aR ?_))
        (refine nx (aM (gN rfl) rfl rfl rfl rfl rfl) rfl ?_)
        (refine nx (a_conv (gN rfl) rfl rfl rfl rfl rfl rfl rfl (by first | rfl | (rw [IntKind.wrap_i64]; omega) | assumption)) rfl ?_)
        (refine nx (a_neq (gN rfl) rfl rfl rfl rfl rfl rfl) rfl ?_)
        show AWp _ _ _ _ _ _ _
        refine aC rfl (fun hc => ?_) (fun hc => by rw [g0] at hc; cases hc)
        refine aS (aR ?_)
        (refine nx (aL (gN rfl) rfl rfl rfl rfl rfl rfl rfl rfl rfl rfl rfl rfl) rfl ?_)
        (refine nx (a_build (gN rfl) rfl rfl rfl rfl rfl rfl rfl rfl rfl rfl rfl) rfl ?_)
        (refine nx (a_build (gN rfl) rfl rfl rfl rfl rfl rfl rfl rfl rfl rfl rfl) rfl ?_)
        (refine nx (a_bslice (gN rfl) rfl rfl rfl rfl rfl rfl rfl rfl rfl rfl rfl rfl rfl) rfl ?_)
        (refine nx (a_call (gN rfl) rfl rfl rfl rfl rfl (hct)) rfl ?_)
        (refine nx (a_not (gN rfl) rfl rfl rfl rfl rfl) rfl ?_)
        (refine nx (aA (gN rfl) rfl rfl rfl rfl rfl) rfl ?_)
        show AWp _ _ _ _ _ _ _
        exact aT (And.intro (.inr rfl) rfl)
theorem shp_bool {n : Nat} {c : CV} (h : Shp Tryd.prog n 4 c) : ∃ b, c = .b b := by
  cases n with
  | zero => exact h.elim
  | succ n =>
    rw [Shp, Tryd.underlying4] at h
    exact h
theorem shp_lits {n : Nat} {c : CV} (h : Shp Tryd.prog n 39 c) : ∃ l : List Lt, c = .lst (l.map Lt.cv) ∧ okC l := by
  cases n with
  | zero => exact h.elim
  | succ n =>
    rw [Shp, Tryd.underlying39] at h
    obtain ⟨l, rfl, hl⟩ := h
    obtain ⟨m, h1, h2⟩ := list_of Lt.cv (fun l => l.a.rng ∧ l.b.rng) (l := l) (fun x hx => by
      have hx := hl x hx
      cases n with
      | zero => exact hx.elim
      | succ n =>
        have hx : Shp Tryd.prog (n + 1) 75 x := hx
        rw [Shp, Tryd.underlying75] at hx
        obtain ⟨l, rfl, hl, hf⟩ := hx
        match l, hl with
        | [x, y, z], _ =>
          obtain ⟨b, rfl⟩ := shp_bool (hf 0 _ x rfl rfl)
          obtain ⟨t, rfl, ht⟩ := shp_tm n (hf 1 _ y rfl rfl)
          obtain ⟨u, rfl, hu⟩ := shp_tm n (hf 2 _ z rfl rfl)
          exact ⟨⟨b, t, u⟩, rfl, ht, hu⟩)
    exact ⟨m, by rw [h1], h2⟩
end Go.Proofs.YtgpnomjjjlomhaaDoor

