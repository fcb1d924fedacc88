/-
  Each use makes a term less; behind all none is left.
-/
import Derived.Test.YtekboofbedakcaaMg7
import Derived.Test.YtekboofbedakcaaMg8
import Derived.Test.YtekboofbedakcaaMg4
import Derived.Test.YtekboofbedakcaaAbShp
namespace Go.Proofs.Ytekboofbedakcaa
open Go.RowKit
set_option linter.unusedVariables false
set_option linter.unusedSimpArgs false
set_option maxRecDepth 100000

theorem mt_strip1 (p t : Tm) : (mt p t.strip []).1 = (mt p t []).1 := by
  rw [Bool.eq_iff_iff]
  constructor
  · intro h
    have := mt_rep h
    rw [Tm.strip_strip] at this
    exact mt_self this
  · intro h
    exact mt_self (by rw [Tm.strip_strip]; exact mt_rep h)
theorem hitR_strip (R : List RuT) (t : Tm) : hitR R t.strip = hitR R t := by
  unfold hitR
  congr 1
  funext r
  exact mt_strip1 r.a t
theorem fst1_strip (R : List RuT) (t : Tm) : fst1 (hitR R) t.strip = fst1 (hitR R) t := by
  induction t using Tm.ind with
  | h f l ih =>
    rw [fst1_eq, fst1_eq, hitR_strip]
    by_cases hf : (Tm.mk f l).f < 0
    · rw [if_pos hf, if_pos (by rw [Tm.strip_eq]; exact hf)]
    · rw [if_neg hf, if_neg (by rw [Tm.strip_eq]; exact hf), stripSym hf]
      by_cases hh : hitR R ⟨f, l⟩ = true
      · rw [if_pos hh, if_pos hh]
      · rw [if_neg hh, if_neg hh]
        show fstL 0 ((l.map Tm.strip).map (fst1 (hitR R))) = _
        rw [List.map_map]
        congr 1
        exact List.map_congr_left fun s hs => ih s hs
theorem vs17_size (t : Tm) : t.vs.length ≤ t.size := by
  unfold Tm.vs Tm.size vsL
  rw [List.length_map]
  exact List.length_filter_le _ _
theorem rs_ok {L : List (List Lt)} {m : Nat} (h : fine17 L m = true) : L.length ≤ m ∧ (∀ c ∈ L, c.length ≤ 1000 ∧ ∀ l ∈ c, l.ok17) ∧ ∀ r ∈ rsK L L.length, RuOk r ∧ r.a.size ≤ 8 ∧ 1 ≤ r.id ∧ r.id ≤ L.length := by
  unfold fine17 at h
  rw [Bool.and_eq_true, decide_eq_true_eq, List.all_eq_true] at h
  refine ⟨h.2, fun c hc => ?_, fun r hr => ?_⟩
  · obtain ⟨h1, h2⟩ := fineC_facts (by decide) (by decide) (h.1 c hc)
    refine ⟨by omega, fun l hl => ?_⟩
    obtain ⟨⟨⟨_, a1, a2⟩, _, a3⟩, ⟨_, b1, b2⟩, _, b3⟩ := h2 l hl
    exact ⟨⟨a1, a2, by omega⟩, b1, b2, by omega⟩
  · obtain ⟨i, hi, hr⟩ := List.mem_filterMap.1 hr
    have hi := List.mem_range.1 hi
    have e : L[i]? = some L[i] := List.getElem?_eq_getElem hi
    rw [e, Option.bind_some] at hr
    obtain ⟨h1, h2⟩ := fineC_facts (by decide) (by decide) (h.1 _ (List.getElem_mem hi))
    rcases of_both ((i : Int) + 1) L[i] with ⟨e1, _⟩ | ⟨r', s, e1, _, e3, e4, e5, e6, l, e7, e8⟩
    · rw [e1] at hr; cases hr
    · rw [e1] at hr
      cases hr
      obtain ⟨⟨⟨_, a1, a2⟩, _, a3⟩, ⟨_, b1, b2⟩, _, b3⟩ := h2 l (by rw [e7]; simp)
      have hs : (s.a.rng ∧ s.a.ok ∧ s.a.size ≤ 8) ∧ s.b.rng ∧ s.b.ok ∧ s.b.size ≤ 8 := by
        rcases e8 with ⟨q1, q2⟩ | ⟨q1, q2⟩ <;> rw [q1, q2]
        · exact ⟨⟨a1, a2, by omega⟩, b1, b2, by omega⟩
        · exact ⟨⟨b1, b2, by omega⟩, a1, a2, by omega⟩
      have hk : kb r.a r.b = 1 := by rw [e4, e5, kb_strip]; exact e6
      have hz : r.a.size ≤ 8 := by rw [e4, Tm.strip_size]; exact hs.1.2.2
      have hv := vs17_size r.a
      refine ⟨⟨by rw [e4]; exact rng_strip17 _ hs.1.1, by rw [e4]; exact strip_ok17 _ hs.1.2.1, by omega, by omega, by rw [e5]; exact rng_strip17 _ hs.2.1, by rw [e5]; exact strip_ok17 _ hs.2.2.1, by rw [e5, Tm.strip_size]; have := hs.2.2.2; omega, fun v hv => ?_, hk⟩, hz, by omega, by omega⟩
      have := ((kb_one _ _).1 hk).1 v
      have h3 := List.count_pos_iff.2 hv
      exact List.count_pos_iff.1 (by omega)
-- 
set_option maxHeartbeats 8000000 in
theorem rwLess_abs (W : World) (L : List (List Lt)) (hr : ∀ c ∈ L, okC c) (hL : L.length ≤ 9223372036854775807) (t : Tm) (ht : t.rng) : AFun Try.prog W 4 [.lst (L.map cl7), t.cw] (.val (.b true)) := by
  refine afun_of (rs := [.b true]) Try.func4 Try.ntmps4 rfl rfl rfl rfl ?_
  intro w U hW
  have F1 := fine17_abs w L 4 (by decide) hr hL
  have s1 := small_abs w t 14 8 ht (by decide) (by decide) (by decide) (by decide)
  refine aS (aR ?_)
  (refine nx (a_box (gN rfl) rfl rfl rfl rfl rfl) rfl ?_)
  (refine nx (aA (gN rfl) rfl rfl rfl rfl rfl) rfl ?_)
  show AWp _ _ _ _ _ _ _
  refine aS (aS (aR ?_))
  (refine nx (a_call (gN rfl) rfl rfl rfl rfl rfl (alive17_abs w)) rfl ?_)
  (refine nx (a_not (gN rfl) rfl rfl rfl rfl rfl) rfl ?_)
  show AWp _ _ _ _ _ _ _
  refine aC rfl (fun hc => by cases hc) (fun _ => aK ?_)
  show AWp _ _ _ _ _ _ _
  by_cases h1 : fine17 L 4 = false
  · rw [h1] at F1
    refine aS (aS (aR ?_))
    (refine nx (aM (gN rfl) rfl rfl rfl rfl rfl) rfl ?_)
    (refine nx (a_call (gN rfl) rfl rfl rfl rfl rfl (F1)) rfl ?_)
    (refine nx (a_not (gN rfl) rfl rfl rfl rfl rfl) rfl ?_)
    (refine nx (aM (gN rfl) rfl rfl rfl rfl rfl) rfl ?_)
    (refine ⟨_, _, _, a_off (go_off rfl rfl rfl rfl (by first | rfl | assumption | (simp; done) | (simp [*]; done))) rfl rfl rfl, rfl, ?_⟩)
    (refine ⟨_, _, _, a_off (go_off rfl rfl rfl rfl (by first | rfl | assumption | (simp; done) | (simp [*]; done))) rfl rfl rfl, rfl, ?_⟩)
    (refine ⟨_, _, _, a_off (go_off rfl rfl rfl rfl (by first | rfl | assumption | (simp; done) | (simp [*]; done))) rfl rfl rfl, rfl, ?_⟩)
    (refine ⟨_, _, _, aPt (gN rfl) rfl rfl rfl rfl rfl ?hb rfl, rfl, ?_⟩; case hb => (first | rfl | assumption | (simp; done)))
    show AWp _ _ _ _ _ _ _
    refine aC rfl (fun hc => ?_) (fun hc => by cases hc)
    refine aS (aR ?_)
    (refine nx (aA (gN rfl) rfl rfl rfl rfl rfl) rfl ?_)
    show AWp _ _ _ _ _ _ _
    exact aT (And.intro (.inr rfl) rfl)
  have h1 : fine17 L 4 = true := by simpa using h1
  rw [h1] at F1
  by_cases h2 : smallT t 14 8 < 0
  · have g2 : decide (smallT t 14 8 < 0) = true := by simpa using h2
    refine aS (aS (aR ?_))
    (refine nx (aM (gN rfl) rfl rfl rfl rfl rfl) rfl ?_)
    (refine nx (a_call (gN rfl) rfl rfl rfl rfl rfl (F1)) rfl ?_)
    (refine nx (a_not (gN rfl) rfl rfl rfl rfl rfl) rfl ?_)
    (refine nx (aM (gN rfl) rfl rfl rfl rfl rfl) rfl ?_)
    (refine nx (aL (gd_on rfl rfl rfl rfl (by first | rfl | assumption | (simp; done))) rfl rfl rfl rfl rfl rfl rfl rfl rfl rfl rfl rfl) rfl ?_)
    (refine nx (a_call (gd_on rfl rfl rfl rfl (by first | rfl | assumption | (simp; done))) rfl rfl rfl rfl rfl (s1)) rfl ?_)
    (refine nx (a_lss (gd_on rfl rfl rfl rfl (by first | rfl | assumption | (simp; done))) rfl rfl rfl rfl rfl rfl) rfl ?_)
    (refine ⟨_, _, _, aPf (gN rfl) rfl rfl rfl rfl rfl ?hb rfl, rfl, ?_⟩; case hb => (first | rfl | assumption | (simp; done)))
    show AWp _ _ _ _ _ _ _
    refine aC rfl (fun hc => ?_) (fun hc => absurd (of_decide_eq_false hc) (by omega))
    refine aS (aR ?_)
    (refine nx (aA (gN rfl) rfl rfl rfl rfl rfl) rfl ?_)
    show AWp _ _ _ _ _ _ _
    exact aT (And.intro (.inr rfl) rfl)
  have g2 : decide (smallT t 14 8 < 0) = false := by simpa using h2
  refine aS (aS (aR ?_))
  (refine nx (aM (gN rfl) rfl rfl rfl rfl rfl) rfl ?_)
  (refine nx (a_call (gN rfl) rfl rfl rfl rfl rfl (F1)) rfl ?_)
  (refine nx (a_not (gN rfl) rfl rfl rfl rfl rfl) rfl ?_)
  (refine nx (aM (gN rfl) rfl rfl rfl rfl rfl) rfl ?_)
  (refine nx (aL (gd_on rfl rfl rfl rfl (by first | rfl | assumption | (simp; done))) rfl rfl rfl rfl rfl rfl rfl rfl rfl rfl rfl rfl) rfl ?_)
  (refine nx (a_call (gd_on rfl rfl rfl rfl (by first | rfl | assumption | (simp; done))) rfl rfl rfl rfl rfl (s1)) rfl ?_)
  (refine nx (a_lss (gd_on rfl rfl rfl rfl (by first | rfl | assumption | (simp; done))) rfl rfl rfl rfl rfl rfl) rfl ?_)
  (refine ⟨_, _, _, aPf (gN rfl) rfl rfl rfl rfl rfl ?hb rfl, rfl, ?_⟩; case hb => (first | rfl | assumption | (simp; done)))
  show AWp _ _ _ _ _ _ _
  refine aC rfl (fun hc => absurd (of_decide_eq_true hc) h2) (fun _ => aK ?_)
  show AWp _ _ _ _ _ _ _
  obtain ⟨_, _, hto, hts⟩ := small1_facts (by decide) (by decide) (Int.not_lt.1 h2)
  obtain ⟨hL4, hcs, hRs⟩ := rs_ok h1
  have hRl := rsK_len L L.length
  have hru := rules17_abs w L (by omega) hcs
  obtain ⟨R, hRd⟩ : ∃ R, R = rsK L L.length := ⟨_, rfl⟩
  obtain ⟨R2, hR2⟩ : ∃ R2, R2 = (dsK L L.length).map RuT.cv := ⟨_, rfl⟩
  rw [← hRd] at hRs hRl hru
  rw [← hR2] at hru
  have hR : ∀ r ∈ R, RuOk r := fun r hr => (hRs r hr).1
  have hrz := RuT.size_all R
  refine aS (aR ?_)
  (refine nx (aM (gN rfl) rfl rfl rfl rfl rfl) rfl ?_)
  (refine nx (a_call (gN rfl) rfl rfl rfl rfl rfl (hru)) rfl ?_)
  (refine nx (aM (gN rfl) rfl rfl rfl rfl rfl) rfl ?_)
  (refine nx (aX (gN rfl) rfl rfl rfl rfl rfl rfl) rfl ?_)
  (refine nx (aX (gN rfl) rfl rfl rfl rfl rfl rfl) rfl ?_)
  (refine nx (aX (gN rfl) rfl rfl rfl rfl rfl rfl) rfl ?_)
  (refine nx (aA (gN rfl) rfl rfl rfl rfl rfl) rfl ?_)
  (refine nx (aA (gN rfl) rfl rfl rfl rfl rfl) rfl ?_)
  (refine nx (aA (gN rfl) rfl rfl rfl rfl rfl) rfl ?_)
  show AWp _ _ _ _ _ _ _
  refine aS (aR ?_)
  (refine nx (aL (gN rfl) rfl rfl rfl rfl rfl rfl rfl rfl rfl rfl rfl rfl) rfl ?_)
  (refine nx (a_call (gN rfl) rfl rfl rfl rfl rfl (of_abs w t hto)) rfl ?_)
  (refine nx (a_alloc (gN rfl) rfl rfl rfl rfl rfl rfl rfl rfl rfl rfl) rfl ?_)
  (refine nx (aSt (gN rfl) rfl rfl rfl rfl rfl rfl rfl rfl rfl rfl) rfl ?_)
  show AWp _ _ _ _ _ _ _
  clear F1 s1 g2 hru
  obtain ⟨S, hS⟩ := terms_fin 14
  refine aS (aB (awp_loop (fun m st => ∃ x : Tm, x.rng ∧ x.ok ∧ x.size ≤ 14 ∧ m = lessN S x.strip ∧ st = [(0, AV.val (.lst (L.map cl7))), (5, .val (.lst (R.map RuT.cv))), (7, .val (.b true)), (8, .bp 8 0 []), (100008, .bx x.cw)])
    (n := lessN S t.strip) (s' := [(0, AV.val (.lst (L.map cl7))), (5, .val (.lst (R.map RuT.cv))), (7, .val (.b true)), (8, .bp 8 0 []), (100008, .bx t.cw)]) (wk_sub ⟨rfl, rfl, rfl, rfl, rfl, trivial⟩) ⟨t, ht, hto, by omega, rfl, rfl⟩ ?_))
  rintro m st ⟨x, hx, hxo, hxs, rfl, rfl⟩
  have hxsr := rng_strip17 _ hx
  have hxso := strip_ok17 _ hxo
  have hT := wTerm_abs w R hR (by omega) x hx (by omega)
  refine aS (aS (aR ?_))
  (refine nx (aM (gN rfl) rfl rfl rfl rfl rfl) rfl ?_)
  show AWp _ _ _ _ _ _ _
  refine aC rfl (fun _ => aK ?_) (fun hc => by cases hc)
  show AWp _ _ _ _ _ _ _
  cases e : trm R x.strip with
  | none =>
    rw [e] at hT
    have hT : AFun Try.prog w 11 [.lst (R.map RuT.cv), x.cw] (.tup [x.strip.cw, .i 0, .b false]) := hT
    have hno := trm_none2 e
    have hno2 : fst1 (hitR R) x = none := by rw [← fst1_strip]; exact hno
    refine aB (aS (aR ?_))
    (refine nx (aM (gN rfl) rfl rfl rfl rfl rfl) rfl ?_)
    (refine nx (aL (gN rfl) rfl rfl rfl rfl rfl rfl rfl rfl rfl rfl rfl rfl) rfl ?_)
    (refine nx (a_call (gN rfl) rfl rfl rfl rfl rfl (hT)) rfl ?_)
    (refine nx (aM (gN rfl) rfl rfl rfl rfl rfl) rfl ?_)
    (refine nx (aX (gN rfl) rfl rfl rfl rfl rfl rfl) rfl ?_)
    (refine nx (aX (gN rfl) rfl rfl rfl rfl rfl rfl) rfl ?_)
    (refine nx (aX (gN rfl) rfl rfl rfl rfl rfl rfl) rfl ?_)
    (refine nx (a_alloc (gN rfl) rfl rfl rfl rfl rfl rfl rfl rfl rfl rfl) rfl ?_)
    (refine nx (aSt (gN rfl) rfl rfl rfl rfl rfl rfl rfl rfl rfl rfl) rfl ?_)
    (refine nx (aA (gN rfl) rfl rfl rfl rfl rfl) rfl ?_)
    (refine nx (aA (gN rfl) rfl rfl rfl rfl rfl) rfl ?_)
    show AWp _ _ _ _ _ _ _
    refine aS (aS (aR ?_))
    (refine nx (aM (gN rfl) rfl rfl rfl rfl rfl) rfl ?_)
    (refine nx (a_not (gN rfl) rfl rfl rfl rfl rfl) rfl ?_)
    show AWp _ _ _ _ _ _ _
    refine aC rfl (fun _ => ?_) (fun hc => by cases hc)
    refine aS (aS (aR ?_))
    (refine nx (aA (gN rfl) rfl rfl rfl rfl rfl) rfl ?_)
    show AWp _ _ _ _ _ _ _
    refine aB (awp_count R.length (fun k => [(5, AV.val (.lst (R.map RuT.cv))), (8, .bp 8 0 []), (100008, .bx x.cw), (9, .bp 9 0 []), (100009, .bx x.strip.cw), (10, .val (.i 0)), (12, .val (.i (k : Int)))]) (wk_sub ⟨rfl, rfl, rfl, rfl, rfl, rfl, rfl, trivial⟩) ?_)
    intro k hk
    refine aS (aS (aR ?_))
    (refine nx (aM (gN rfl) rfl rfl rfl rfl rfl) rfl ?_)
    (refine nx (aM (gN rfl) rfl rfl rfl rfl rfl) rfl ?_)
    (refine nx (a_len (gN rfl) rfl rfl rfl rfl rfl rfl rfl) rfl ?_)
    (refine nx (a_lss (gN rfl) rfl rfl rfl rfl rfl rfl) rfl ?_)
    show AWp _ _ _ _ _ _ _
    refine aC rfl (fun hlt => ?_) (fun hlt => ?_)
    · have hkl : k < R.length := by simpa using hlt
      obtain ⟨r, hrk⟩ : ∃ r, R[k]? = some r := ⟨R[k], List.getElem?_eq_getElem hkl⟩
      have hrm := List.mem_of_getElem? hrk
      have hrc : (R.map RuT.cv)[k]? = some r.cw := by rw [List.getElem?_map, hrk]; rfl
      obtain ⟨hro, hr8, _⟩ := hRs r hrm
      have hP := mParts_abs w r.a x hro.ar hro.ao hro.av hx hxo (by omega)
      rw [pm_none hrm x hno2] at hP
      refine aK ?_
      show AWp _ _ _ _ _ _ _
      refine aS (aB (aS (aD (by kernel_rfl) (by kernel_rfl) ?_)))
      (refine nx (aM (gN rfl) rfl rfl rfl rfl rfl) rfl ?_)
      (refine nx (aM (gN rfl) rfl rfl rfl rfl rfl) rfl ?_)
      (refine nx (a_index (j := k) (gN rfl) rfl rfl rfl rfl rfl rfl rfl rfl rfl (hrc) rfl (hrz)) rfl ?_)
      (refine nx (a_field_ad (gN rfl) rfl rfl rfl rfl rfl rfl rfl rfl rfl rfl rfl) rfl ?_)
      (refine nx (a_load_ad (gN rfl) rfl rfl rfl rfl rfl rfl rfl rfl rfl) rfl ?_)
      (refine nx (aL (gN rfl) rfl rfl rfl rfl rfl rfl rfl rfl rfl rfl rfl rfl) rfl ?_)
      (refine nx (a_call (gN rfl) rfl rfl rfl rfl rfl (hP)) rfl ?_)
      (refine nx (a_len (gN rfl) rfl rfl rfl rfl rfl rfl rfl) rfl ?_)
      (refine nx (a_gtr (gN rfl) rfl rfl rfl rfl rfl rfl) rfl ?_)
      refine ⟨by kernel_rfl, ?_⟩
      show AWp _ _ _ _ _ _ _
      refine aC rfl (fun hc => by cases hc) (fun _ => aK ?_)
      show AWp _ _ _ _ _ _ _
      refine aR ?_
      (refine nx (aM (gN rfl) rfl rfl rfl rfl rfl) rfl ?_)
      (refine nx (a_add (gN rfl) rfl rfl rfl rfl rfl rfl (by first | omega | (simp only [List.length_map, List.length_append, List.length_cons, List.length_nil] <;> omega) | (simp <;> omega))) rfl ?_)
      (refine nx (aA (gN rfl) rfl rfl rfl rfl rfl) rfl ?_)
      exact ⟨hkl, wk_sub ⟨rfl, rfl, rfl, rfl, rfl, rfl, rfl, trivial⟩⟩
    · refine aE ?_
      show AWp _ _ _ _ _ _ _
      have hA := wAllNo_abs w R hR (by omega) [⟨false, x, x⟩] (by show 1 ≤ 1000000; decide) (fun l hl => by
        have : l = ⟨false, x, x⟩ := by simpa using hl
        subst this
        exact ⟨hx, by show x.size ≤ _; omega, hx, by show x.size ≤ _; omega⟩) (fun l hl => by
        have : l = ⟨false, x, x⟩ := by simpa using hl
        subst this
        exact ⟨hno, hno⟩)
      have eA : AFun Try.prog w 21 [.lst (R.map RuT.cv), .lst [.row [.b false, x.cw, x.cw]]] (.tup [.lst [.row [.b false, x.strip.cw, x.strip.cw]], .lst []]) := hA
      have hSm := same_abs w hxsr hx
      rw [(sameT_iff _ _).2 (Tm.strip_strip x)] at hSm
      refine aS (aR ?_)
      (refine nx (aM (gN rfl) rfl rfl rfl rfl rfl) rfl ?_)
      (refine nx (aL (gN rfl) rfl rfl rfl rfl rfl rfl rfl rfl rfl rfl rfl rfl) rfl ?_)
      (refine nx (aL (gN rfl) rfl rfl rfl rfl rfl rfl rfl rfl rfl rfl rfl rfl) rfl ?_)
      (refine nx (a_buildT ltZ17 (gN rfl) rfl rfl rfl rfl rfl rfl rfl rfl rfl rfl rfl) rfl ?_)
      (refine nx (a_bslice (gN rfl) rfl rfl rfl rfl rfl rfl rfl rfl rfl rfl rfl rfl rfl) rfl ?_)
      (refine nx (a_call (gN rfl) rfl rfl rfl rfl rfl (eA)) rfl ?_)
      (refine nx (aM (gN rfl) rfl rfl rfl rfl rfl) rfl ?_)
      (refine nx (aX (gN rfl) rfl rfl rfl rfl rfl rfl) rfl ?_)
      (refine nx (aX (gN rfl) rfl rfl rfl rfl rfl rfl) rfl ?_)
      (refine nx (aA (gN rfl) rfl rfl rfl rfl rfl) rfl ?_)
      (refine nx (aA (gN rfl) rfl rfl rfl rfl rfl) rfl ?_)
      show AWp _ _ _ _ _ _ _
      refine aS (aD (by kernel_rfl) (by kernel_rfl) ?_)
      (refine nx (aM (gN rfl) rfl rfl rfl rfl rfl) rfl ?_)
      (refine nx (a_eql (gN rfl) rfl rfl rfl rfl rfl rfl) rfl ?_)
      (refine nx (aM (gN rfl) rfl rfl rfl rfl rfl) rfl ?_)
      (refine nx (aL (gd_on rfl rfl rfl rfl (by first | rfl | assumption | (simp; done))) rfl rfl rfl rfl rfl rfl rfl rfl rfl rfl rfl rfl) rfl ?_)
      (refine nx (aL (gd_on rfl rfl rfl rfl (by first | rfl | assumption | (simp; done))) rfl rfl rfl rfl rfl rfl rfl rfl rfl rfl rfl rfl) rfl ?_)
      (refine nx (a_call (gd_on rfl rfl rfl rfl (by first | rfl | assumption | (simp; done))) rfl rfl rfl rfl rfl (hSm)) rfl ?_)
      (refine ⟨_, _, _, aPt (gN rfl) rfl rfl rfl rfl rfl ?hb rfl, rfl, ?_⟩; case hb => (first | rfl | assumption | (simp; done)))
      (refine nx (aM (gN rfl) rfl rfl rfl rfl rfl) rfl ?_)
      (refine nx (aM (gd_on rfl rfl rfl rfl (by first | rfl | assumption | (simp; done))) rfl rfl rfl rfl rfl) rfl ?_)
      (refine nx (a_len (gd_on rfl rfl rfl rfl (by first | rfl | assumption | (simp; done))) rfl rfl rfl rfl rfl rfl rfl) rfl ?_)
      (refine nx (a_eql (gd_on rfl rfl rfl rfl (by first | rfl | assumption | (simp; done))) rfl rfl rfl rfl rfl rfl) rfl ?_)
      (refine ⟨_, _, _, aPt (gN rfl) rfl rfl rfl rfl rfl ?hb rfl, rfl, ?_⟩; case hb => (first | rfl | assumption | (simp; done)))
      (refine nx (aM (gN rfl) rfl rfl rfl rfl rfl) rfl ?_)
      (refine nx (aM (gd_on rfl rfl rfl rfl (by first | rfl | assumption | (simp; done))) rfl rfl rfl rfl rfl) rfl ?_)
      (refine nx (a_index (j := 0) (gd_on rfl rfl rfl rfl (by first | rfl | assumption | (simp; done))) rfl rfl rfl rfl rfl rfl rfl rfl rfl (rfl) rfl (sZ rfl)) rfl ?_)
      (refine nx (a_field_ad (gd_on rfl rfl rfl rfl (by first | rfl | assumption | (simp; done))) rfl rfl rfl rfl rfl rfl rfl rfl rfl rfl rfl) rfl ?_)
      (refine nx (a_load_ad (gd_on rfl rfl rfl rfl (by first | rfl | assumption | (simp; done))) rfl rfl rfl rfl rfl rfl rfl rfl rfl) rfl ?_)
      (refine nx (aL (gd_on rfl rfl rfl rfl (by first | rfl | assumption | (simp; done))) rfl rfl rfl rfl rfl rfl rfl rfl rfl rfl rfl rfl) rfl ?_)
      (refine nx (a_call (gd_on rfl rfl rfl rfl (by first | rfl | assumption | (simp; done))) rfl rfl rfl rfl rfl (hSm)) rfl ?_)
      (refine ⟨_, _, _, aPt (gN rfl) rfl rfl rfl rfl rfl ?hb rfl, rfl, ?_⟩; case hb => (first | rfl | assumption | (simp; done)))
      (refine nx (aA (gN rfl) rfl rfl rfl rfl rfl) rfl ?_)
      refine ⟨by kernel_rfl, ?_⟩
      show AWp _ _ _ _ _ _ _
      exact aT (And.intro (.inr rfl) rfl)
  | some q =>
    obtain ⟨s, id⟩ := q
    rw [e] at hT
    have hT : AFun Try.prog w 11 [.lst (R.map RuT.cv), x.cw] (.tup [s.cw, .i id, .b true]) := hT
    obtain ⟨k1, k2, k3, k4, k5, r, hrm, hid⟩ := trm_step hR (Tm.strip_strip x) hxsr hxso (by rw [Tm.strip_size]; omega) e
    rw [Tm.strip_size] at k5
    obtain ⟨_, _, i1, i2⟩ := hRs r hrm
    rw [hid] at i1 i2
    have hG := kGreater_abs w x s hx hxo (by omega) k3 k4 (by omega)
    have hk1 : kb x s = 1 := by rw [← kb_stripL]; exact k1
    rw [show decide (kb x s = 1) = true by simpa using hk1] at hG
    refine aB (aS (aR ?_))
    (refine nx (aM (gN rfl) rfl rfl rfl rfl rfl) rfl ?_)
    (refine nx (aL (gN rfl) rfl rfl rfl rfl rfl rfl rfl rfl rfl rfl rfl rfl) rfl ?_)
    (refine nx (a_call (gN rfl) rfl rfl rfl rfl rfl (hT)) rfl ?_)
    (refine nx (aM (gN rfl) rfl rfl rfl rfl rfl) rfl ?_)
    (refine nx (aX (gN rfl) rfl rfl rfl rfl rfl rfl) rfl ?_)
    (refine nx (aX (gN rfl) rfl rfl rfl rfl rfl rfl) rfl ?_)
    (refine nx (aX (gN rfl) rfl rfl rfl rfl rfl rfl) rfl ?_)
    (refine nx (a_alloc (gN rfl) rfl rfl rfl rfl rfl rfl rfl rfl rfl rfl) rfl ?_)
    (refine nx (aSt (gN rfl) rfl rfl rfl rfl rfl rfl rfl rfl rfl rfl) rfl ?_)
    (refine nx (aA (gN rfl) rfl rfl rfl rfl rfl) rfl ?_)
    (refine nx (aA (gN rfl) rfl rfl rfl rfl rfl) rfl ?_)
    show AWp _ _ _ _ _ _ _
    refine aS (aS (aR ?_))
    (refine nx (aM (gN rfl) rfl rfl rfl rfl rfl) rfl ?_)
    (refine nx (a_not (gN rfl) rfl rfl rfl rfl rfl) rfl ?_)
    show AWp _ _ _ _ _ _ _
    refine aC rfl (fun hc => by cases hc) (fun _ => aK ?_)
    show AWp _ _ _ _ _ _ _
    have b1 : decide (id < 1) = false := by simp; omega
    have b2 : decide (id > ((L.map cl7).length : Int)) = false := by simp; omega
    refine aS (aS (aR ?_))
    (refine nx (aL (gN rfl) rfl rfl rfl rfl rfl rfl rfl rfl rfl rfl rfl rfl) rfl ?_)
    (refine nx (aL (gN rfl) rfl rfl rfl rfl rfl rfl rfl rfl rfl rfl rfl rfl) rfl ?_)
    (refine nx (a_call (gN rfl) rfl rfl rfl rfl rfl (hG)) rfl ?_)
    (refine nx (a_not (gN rfl) rfl rfl rfl rfl rfl) rfl ?_)
    (refine nx (aM (gN rfl) rfl rfl rfl rfl rfl) rfl ?_)
    (refine nx (aM (gd_on rfl rfl rfl rfl (by first | rfl | assumption | (simp; done))) rfl rfl rfl rfl rfl) rfl ?_)
    (refine nx (a_lss (gd_on rfl rfl rfl rfl (by first | rfl | assumption | (simp; done))) rfl rfl rfl rfl rfl rfl) rfl ?_)
    (refine ⟨_, _, _, aPf (gN rfl) rfl rfl rfl rfl rfl ?hb rfl, rfl, ?_⟩; case hb => (first | rfl | assumption | (simp; done)))
    (refine nx (aM (gN rfl) rfl rfl rfl rfl rfl) rfl ?_)
    (refine nx (aM (gd_on rfl rfl rfl rfl (by first | rfl | assumption | (simp; done))) rfl rfl rfl rfl rfl) rfl ?_)
    (refine nx (aM (gd_on rfl rfl rfl rfl (by first | rfl | assumption | (simp; done))) rfl rfl rfl rfl rfl) rfl ?_)
    (refine nx (a_len (gd_on rfl rfl rfl rfl (by first | rfl | assumption | (simp; done))) rfl rfl rfl rfl rfl rfl rfl) rfl ?_)
    (refine nx (a_gtr (gd_on rfl rfl rfl rfl (by first | rfl | assumption | (simp; done))) rfl rfl rfl rfl rfl rfl) rfl ?_)
    (refine ⟨_, _, _, aPf (gN rfl) rfl rfl rfl rfl rfl ?hb rfl, rfl, ?_⟩; case hb => (first | rfl | assumption | (simp; done)))
    show AWp _ _ _ _ _ _ _
    refine aC rfl (fun hc => ?_) (fun _ => aK ?_)
    · exact absurd hc (by simp; omega)
    show AWp _ _ _ _ _ _ _
    refine aR ?_
    (refine nx (aL (gN rfl) rfl rfl rfl rfl rfl rfl rfl rfl rfl rfl rfl rfl) rfl ?_)
    (refine nx (aSt (gN rfl) rfl rfl rfl rfl rfl rfl rfl rfl rfl rfl) rfl ?_)
    refine ⟨lessN S s, _, lessN_lt (x := x.strip) k1 (hS s k2 k3 (by omega)), ⟨s, k3, k4, by omega, by rw [k2], rfl⟩, wk_sub ⟨rfl, rfl, rfl, rfl, rfl, trivial⟩⟩
theorem shp_bool {n : Nat} {c : CV} (h : Shp Try.prog n 4 c) : ∃ b, c = .b b := by
  cases n with
  | zero => exact h.elim
  | succ n =>
    rw [Shp, Try.underlying4] at h
    exact h
theorem shp_lits {n : Nat} {c : CV} (h : Shp Try.prog n 26 c) : ∃ l : List Lt, c = .lst (l.map Lt.cv) ∧ okC l := by
  cases n with
  | zero => exact h.elim
  | succ n =>
    rw [Shp, Try.underlying26] at h
    obtain ⟨l, rfl, hl⟩ := h
    obtain ⟨m, h1, h2⟩ := list_of Lt.cv (fun l => l.a.rng ∧ l.b.rng) (l := l) (fun x hx => by
      have hx := hl x hx
      cases n with
      | zero => exact hx.elim
      | succ n =>
        have hx : Shp Try.prog (n + 1) 75 x := hx
        rw [Shp, Try.underlying75] at hx
        obtain ⟨l, rfl, hl, hf⟩ := hx
        match l, hl with
        | [x, y, z], _ =>
          obtain ⟨b, rfl⟩ := shp_bool (hf 0 _ x rfl rfl)
          obtain ⟨t, rfl, ht⟩ := shp_tm n (hf 1 _ y rfl rfl)
          obtain ⟨u, rfl, hu⟩ := shp_tm n (hf 2 _ z rfl rfl)
          exact ⟨⟨b, t, u⟩, rfl, ht, hu⟩)
    exact ⟨m, by rw [h1], h2⟩
theorem shp_cls {n : Nat} {c : CV} (h : Shp Try.prog n 22 c) : ∃ L : List (List Lt), c = .lst (L.map cl7) ∧ ∀ c ∈ L, okC c := by
  cases n with
  | zero => exact h.elim
  | succ n =>
    rw [Shp, Try.underlying22] at h
    obtain ⟨l, rfl, hl⟩ := h
    obtain ⟨m, h1, h2⟩ := list_of cl7 okC (l := l) (fun x hx => shp_lits (hl x hx))
    exact ⟨m, by rw [h1], h2⟩
end Go.Proofs.Ytekboofbedakcaa

