/-
  The law PrintTexts.
-/
import Derived.Test.YtebhbnhijnpmcaaDoorMg3
import Derived.Test.YtebhbnhijnpmcaaDoorMg4
import Derived.Test.YtebhbnhijnpmcaaDoorMg2
import Derived.Test.YtebhbnhijnpmcaaDoorAbShp
-- @STR@
namespace Go.Proofs.YtebhbnhijnpmcaaDoor
open Go.RowKit Go.ChangeShapes
set_option linter.unusedVariables false
set_option linter.unusedSimpArgs false
set_option maxRecDepth 100000

-- 
set_option maxHeartbeats 8000000 in
theorem printTexts_abs (tb : Option (Nat × Obj)) (hI : ItoaN tb 1001) (nm : List By) (t : Tm) (c : List Lt) (ht : t.rng) (hc : okC c) : AFunT Tryd.prog tb 4 [.lst (nm.map sv), t.cw, .lst (c.map Lt.cv)] (.val (.b true)) := by
  have hnl : (nm.map sv).length = nm.length := List.length_map ..
  have hsv := svs_size nm
  have hsz := Lt.size_all c
  have hln : (c.map Lt.cv).length = c.length := List.length_map ..
  refine afunQ_of (rs := [.b true]) Tryd.func4 Tryd.ntmps4 rfl rfl rfl rfl ?_
  intro w U hW hq
  have hT := Tb.of hW hq
  have h0 := alive13_abs w
  have f1 : AFun Tryd.prog w 18 [.lst [t.cw]] (.val (.b (fineB [t]))) := by
    have := fine_abs w [t] (fun x hx => by rw [List.mem_singleton.1 hx]; exact ht) (by simp)
    simp only [List.map_cons, List.map_nil, Tm.cv_eq] at this
    exact this
  have f2 := fine11_abs w c 6 12 (by decide) (by decide) (by decide) hc
  refine aS (aR ?_)
  (refine nx (a_box (gN rfl) rfl rfl rfl rfl rfl) rfl ?_)
  (refine nx (aA (gN rfl) rfl rfl rfl rfl rfl) rfl ?_)
  show AWp _ _ _ _ _ _ _
  refine aS (aS (aR ?_))
  (refine nx (a_call (gN rfl) rfl rfl rfl rfl rfl (h0)) rfl ?_)
  (refine nx (a_not (gN rfl) rfl rfl rfl rfl rfl) rfl ?_)
  show AWp _ _ _ _ _ _ _
  refine aC rfl (fun hc => by cases hc) (fun hc => aK ?_)
  show AWp _ _ _ _ _ _ _
  by_cases h20 : nm.length > 20
  · have g : decide (((nm.map sv).length : Int) > ((20 : Nat) : Int)) = true := by rw [hnl, decide_eq_true_eq]; omega
    have g : decide (((nm.map sv).length : Int) > 20) = true := g
    refine aS (aS (aR ?_))
    (refine nx (aM (gN rfl) rfl rfl rfl rfl rfl) rfl ?_)
    (refine nx (a_len (gN rfl) rfl rfl rfl rfl rfl rfl rfl) rfl ?_)
    (refine nx (a_gtr (gN rfl) rfl rfl rfl rfl rfl rfl) rfl ?_)
    (refine nx (aM (gN rfl) rfl rfl rfl rfl rfl) rfl ?_)
    (refine ⟨_, _, _, a_off (go_off rfl rfl rfl rfl (by first | rfl | assumption | (simp; done) | (simp [*]; done))) rfl rfl rfl, rfl, ?_⟩)
    (refine ⟨_, _, _, a_off (go_off rfl rfl rfl rfl (by first | rfl | assumption | (simp; done) | (simp [*]; done))) rfl rfl rfl, rfl, ?_⟩)
    (refine ⟨_, _, _, a_off (go_off rfl rfl rfl rfl (by first | rfl | assumption | (simp; done) | (simp [*]; done))) rfl rfl rfl, rfl, ?_⟩)
    (refine ⟨_, _, _, a_off (go_off rfl rfl rfl rfl (by first | rfl | assumption | (simp; done) | (simp [*]; done))) rfl rfl rfl, rfl, ?_⟩)
    (refine ⟨_, _, _, aPt (gN rfl) rfl rfl rfl rfl rfl ?hb rfl, rfl, ?_⟩; case hb => (first | rfl | assumption | (simp; done)))
    (refine nx (aM (gN rfl) rfl rfl rfl rfl rfl) rfl ?_)
    (refine ⟨_, _, _, a_off (go_off rfl rfl rfl rfl (by first | rfl | assumption | (simp; done) | (simp [*]; done))) rfl rfl rfl, rfl, ?_⟩)
    (refine ⟨_, _, _, a_off (go_off rfl rfl rfl rfl (by first | rfl | assumption | (simp; done) | (simp [*]; done))) rfl rfl rfl, rfl, ?_⟩)
    (refine ⟨_, _, _, a_off (go_off rfl rfl rfl rfl (by first | rfl | assumption | (simp; done) | (simp [*]; done))) rfl rfl rfl, rfl, ?_⟩)
    (refine ⟨_, _, _, aPt (gN rfl) rfl rfl rfl rfl rfl ?hb rfl, rfl, ?_⟩; case hb => (first | rfl | assumption | (simp; done)))
    show AWp _ _ _ _ _ _ _
    refine aC rfl (fun hc => ?_) (fun hc => by cases hc)
    refine aS (aR ?_)
    (refine nx (aA (gN rfl) rfl rfl rfl rfl rfl) rfl ?_)
    show AWp _ _ _ _ _ _ _
    exact aT (And.intro (.inr rfl) rfl)
  have g : decide (((nm.map sv).length : Int) > 20) = false := by rw [hnl, decide_eq_false_iff_not]; omega
  cases hF : fineB [t] with
  | false =>
    rw [hF] at f1
    refine aS (aS (aR ?_))
    (refine nx (aM (gN rfl) rfl rfl rfl rfl rfl) rfl ?_)
    (refine nx (a_len (gN rfl) rfl rfl rfl rfl rfl rfl rfl) rfl ?_)
    (refine nx (a_gtr (gN rfl) rfl rfl rfl rfl rfl rfl) rfl ?_)
    (refine nx (aM (gN rfl) rfl rfl rfl rfl rfl) rfl ?_)
    (refine nx (aL (gd_on rfl rfl rfl rfl (by first | rfl | assumption | (simp; done))) rfl rfl rfl rfl rfl rfl rfl rfl rfl rfl rfl rfl) rfl ?_)
    (refine nx (a_bslice (gd_on rfl rfl rfl rfl (by first | rfl | assumption | (simp; done))) rfl rfl rfl rfl rfl rfl rfl rfl rfl rfl rfl rfl rfl) rfl ?_)
    (refine nx (a_call (gd_on rfl rfl rfl rfl (by first | rfl | assumption | (simp; done))) rfl rfl rfl rfl rfl (f1)) rfl ?_)
    (refine nx (a_not (gd_on rfl rfl rfl rfl (by first | rfl | assumption | (simp; done))) rfl rfl rfl rfl rfl) rfl ?_)
    (refine ⟨_, _, _, aPf (gN rfl) rfl rfl rfl rfl rfl ?hb rfl, rfl, ?_⟩; case hb => (first | rfl | assumption | (simp; done)))
    (refine nx (aM (gN rfl) rfl rfl rfl rfl rfl) rfl ?_)
    (refine ⟨_, _, _, a_off (go_off rfl rfl rfl rfl (by first | rfl | assumption | (simp; done) | (simp [*]; done))) rfl rfl rfl, rfl, ?_⟩)
    (refine ⟨_, _, _, a_off (go_off rfl rfl rfl rfl (by first | rfl | assumption | (simp; done) | (simp [*]; done))) rfl rfl rfl, rfl, ?_⟩)
    (refine ⟨_, _, _, a_off (go_off rfl rfl rfl rfl (by first | rfl | assumption | (simp; done) | (simp [*]; done))) rfl rfl rfl, rfl, ?_⟩)
    (refine ⟨_, _, _, aPt (gN rfl) rfl rfl rfl rfl rfl ?hb rfl, rfl, ?_⟩; case hb => (first | rfl | assumption | (simp; done)))
    show AWp _ _ _ _ _ _ _
    refine aC rfl (fun hc => ?_) (fun hc => by cases hc)
    refine aS (aR ?_)
    (refine nx (aA (gN rfl) rfl rfl rfl rfl rfl) rfl ?_)
    show AWp _ _ _ _ _ _ _
    exact aT (And.intro (.inr rfl) rfl)
  | true =>
  rw [hF] at f1
  cases hG : fineC c 6 12 with
  | false =>
    rw [hG] at f2
    refine aS (aS (aR ?_))
    (refine nx (aM (gN rfl) rfl rfl rfl rfl rfl) rfl ?_)
    (refine nx (a_len (gN rfl) rfl rfl rfl rfl rfl rfl rfl) rfl ?_)
    (refine nx (a_gtr (gN rfl) rfl rfl rfl rfl rfl rfl) rfl ?_)
    (refine nx (aM (gN rfl) rfl rfl rfl rfl rfl) rfl ?_)
    (refine nx (aL (gd_on rfl rfl rfl rfl (by first | rfl | assumption | (simp; done))) rfl rfl rfl rfl rfl rfl rfl rfl rfl rfl rfl rfl) rfl ?_)
    (refine nx (a_bslice (gd_on rfl rfl rfl rfl (by first | rfl | assumption | (simp; done))) rfl rfl rfl rfl rfl rfl rfl rfl rfl rfl rfl rfl rfl) rfl ?_)
    (refine nx (a_call (gd_on rfl rfl rfl rfl (by first | rfl | assumption | (simp; done))) rfl rfl rfl rfl rfl (f1)) rfl ?_)
    (refine nx (a_not (gd_on rfl rfl rfl rfl (by first | rfl | assumption | (simp; done))) rfl rfl rfl rfl rfl) rfl ?_)
    (refine ⟨_, _, _, aPf (gN rfl) rfl rfl rfl rfl rfl ?hb rfl, rfl, ?_⟩; case hb => (first | rfl | assumption | (simp; done)))
    (refine nx (aM (gN rfl) rfl rfl rfl rfl rfl) rfl ?_)
    (refine nx (aM (gd_on rfl rfl rfl rfl (by first | rfl | assumption | (simp; done))) rfl rfl rfl rfl rfl) rfl ?_)
    (refine nx (a_call (gd_on rfl rfl rfl rfl (by first | rfl | assumption | (simp; done))) rfl rfl rfl rfl rfl (f2)) rfl ?_)
    (refine nx (a_not (gd_on rfl rfl rfl rfl (by first | rfl | assumption | (simp; done))) rfl rfl rfl rfl rfl) rfl ?_)
    (refine ⟨_, _, _, aPf (gN rfl) rfl rfl rfl rfl rfl ?hb rfl, rfl, ?_⟩; case hb => (first | rfl | assumption | (simp; done)))
    show AWp _ _ _ _ _ _ _
    refine aC rfl (fun hc => ?_) (fun hc => by cases hc)
    refine aS (aR ?_)
    (refine nx (aA (gN rfl) rfl rfl rfl rfl rfl) rfl ?_)
    show AWp _ _ _ _ _ _ _
    exact aT (And.intro (.inr rfl) rfl)
  | true =>
  rw [hG] at f2
  refine aS (aS (aR ?_))
  (refine nx (aM (gN rfl) rfl rfl rfl rfl rfl) rfl ?_)
  (refine nx (a_len (gN rfl) rfl rfl rfl rfl rfl rfl rfl) rfl ?_)
  (refine nx (a_gtr (gN rfl) rfl rfl rfl rfl rfl rfl) rfl ?_)
  (refine nx (aM (gN rfl) rfl rfl rfl rfl rfl) rfl ?_)
  (refine nx (aL (gd_on rfl rfl rfl rfl (by first | rfl | assumption | (simp; done))) rfl rfl rfl rfl rfl rfl rfl rfl rfl rfl rfl rfl) rfl ?_)
  (refine nx (a_bslice (gd_on rfl rfl rfl rfl (by first | rfl | assumption | (simp; done))) rfl rfl rfl rfl rfl rfl rfl rfl rfl rfl rfl rfl rfl) rfl ?_)
  (refine nx (a_call (gd_on rfl rfl rfl rfl (by first | rfl | assumption | (simp; done))) rfl rfl rfl rfl rfl (f1)) rfl ?_)
  (refine nx (a_not (gd_on rfl rfl rfl rfl (by first | rfl | assumption | (simp; done))) rfl rfl rfl rfl rfl) rfl ?_)
  (refine ⟨_, _, _, aPf (gN rfl) rfl rfl rfl rfl rfl ?hb rfl, rfl, ?_⟩; case hb => (first | rfl | assumption | (simp; done)))
  (refine nx (aM (gN rfl) rfl rfl rfl rfl rfl) rfl ?_)
  (refine nx (aM (gd_on rfl rfl rfl rfl (by first | rfl | assumption | (simp; done))) rfl rfl rfl rfl rfl) rfl ?_)
  (refine nx (a_call (gd_on rfl rfl rfl rfl (by first | rfl | assumption | (simp; done))) rfl rfl rfl rfl rfl (f2)) rfl ?_)
  (refine nx (a_not (gd_on rfl rfl rfl rfl (by first | rfl | assumption | (simp; done))) rfl rfl rfl rfl rfl) rfl ?_)
  (refine ⟨_, _, _, aPf (gN rfl) rfl rfl rfl rfl rfl ?hb rfl, rfl, ?_⟩; case hb => (first | rfl | assumption | (simp; done)))
  show AWp _ _ _ _ _ _ _
  refine aC rfl (fun hc => by cases hc) (fun hc => aK ?_)
  show AWp _ _ _ _ _ _ _
  obtain ⟨t1, t2, t3, _⟩ := fine_of hF (t := t) (by simp)
  obtain ⟨c6, hcf⟩ := fineC_facts (by decide) (by decide) hG
  refine aS (aS (aR ?_))
  (refine nx (aA (gN rfl) rfl rfl rfl rfl rfl) rfl ?_)
  show AWp _ _ _ _ _ _ _
  refine aB (awp_countI nm.length (fun k => ∀ i x, i < k → nm[i]? = some x → x.length ≤ 60) (fun k => [(0, .val (.lst (nm.map sv))), (2, .val (.lst (c.map Lt.cv))), (4, .bp 4 0 []), (100004, .bx t.cw), (7, .val (.i (k : Int)))]) (wk_sub ⟨rfl, rfl, rfl, rfl, rfl, trivial⟩) (fun i x h => by omega) ?_)
  intro k hk hInv
  refine aS (aS (aR ?_))
  (refine nx (aM (gN rfl) rfl rfl rfl rfl rfl) rfl ?_)
  (refine nx (aM (gN rfl) rfl rfl rfl rfl rfl) rfl ?_)
  (refine nx (a_len (gN rfl) rfl rfl rfl rfl rfl rfl rfl) rfl ?_)
  (refine nx (a_lss (gN rfl) rfl rfl rfl rfl rfl rfl) rfl ?_)
  show AWp _ _ _ _ _ _ _
  refine aC rfl (fun hlt => ?_) (fun hlt => ?_)
  · have hkl : k < nm.length := by
      have hlt : decide ((k : Int) < ((nm.map sv).length : Int)) = true := hlt
      rw [hnl] at hlt
      simpa using hlt
    obtain ⟨x, hx⟩ : ∃ x, nm[k]? = some x := ⟨nm[k], List.getElem?_eq_getElem hkl⟩
    have hx' := sv_at hx
    refine aK ?_
    show AWp _ _ _ _ _ _ _
    refine aS (aB (aS (aR ?_)))
    (refine nx (aM (gN rfl) rfl rfl rfl rfl rfl) rfl ?_)
    (refine nx (aM (gN rfl) rfl rfl rfl rfl rfl) rfl ?_)
    (refine nx (a_index (j := k) (gN rfl) rfl rfl rfl rfl rfl rfl rfl rfl rfl (hx') rfl (hsv)) rfl ?_)
    (refine nx (a_load_ad (gN rfl) rfl rfl rfl rfl rfl rfl rfl rfl rfl) rfl ?_)
    (refine nx (a_slen (gN rfl) rfl rfl rfl rfl rfl rfl rfl) rfl ?_)
    (refine nx (a_gtr (gN rfl) rfl rfl rfl rfl rfl rfl) rfl ?_)
    show AWp _ _ _ _ _ _ _
    refine aC rfl (fun hc2 => ?_) (fun hc2 => aK ?_)
    · refine aS (aR ?_)
      (refine nx (aA (gN rfl) rfl rfl rfl rfl rfl) rfl ?_)
      show AWp _ _ _ _ _ _ _
      exact aT (And.intro (.inr rfl) rfl)
    have hx60 : x.length ≤ 60 := by
      have hc2 : decide ((x.length : Int) > 60) = false := hc2
      have := of_decide_eq_false hc2
      omega
    show AWp _ _ _ _ _ _ _
    refine aR ?_
    (refine nx (aM (gN rfl) rfl rfl rfl rfl rfl) rfl ?_)
    (refine nx (a_add (gN rfl) rfl rfl rfl rfl rfl rfl (by first | omega | (simp only [List.length_map, List.length_append, List.length_cons, List.length_nil] <;> omega) | (simp <;> omega))) rfl ?_)
    (refine nx (aA (gN rfl) rfl rfl rfl rfl rfl) rfl ?_)
    refine ⟨hkl, fun i y hi hy => ?_, wk_sub ⟨rfl, rfl, rfl, rfl, rfl, trivial⟩⟩
    by_cases hik : i = k
    · subst hik
      rw [hx] at hy
      cases hy
      exact hx60
    · exact hInv i y (by omega) hy
  have hkl : k = nm.length := by
    have hlt : decide ((k : Int) < ((nm.map sv).length : Int)) = false := hlt
    rw [hnl] at hlt
    have := of_decide_eq_false hlt
    omega
  subst hkl
  have hn60 : ∀ x ∈ nm, x.length ≤ 60 := fun x hx => by
    obtain ⟨i, hi, rfl⟩ := List.getElem_of_mem hx
    exact hInv i _ hi (List.getElem?_eq_getElem hi)
  refine aE ?_
  show AWp _ _ _ _ _ _ _
  obtain ⟨S, hS⟩ : ∃ S : Sg, S = ⟨nm, [], []⟩ := ⟨_, rfl⟩
  have hSn : S.nm = nm := by rw [hS]
  refine aS (aR ?_)
  (refine nx (aM (gN rfl) rfl rfl rfl rfl rfl) rfl ?_)
  (refine nx (a_buildP (gN rfl) rfl rfl rfl rfl rfl rfl rfl rfl rfl rfl rfl) rfl ?_)
  (refine nx (a_alloc (gN rfl) rfl rfl rfl rfl rfl rfl rfl rfl rfl rfl) rfl ?_)
  (refine nx (aSt (gN rfl) rfl rfl rfl rfl rfl rfl rfl rfl rfl rfl) rfl ?_)
  show AWp _ _ _ _ _ _ _
  refine aS (aR ?_)
  (refine nx (aM (gN rfl) rfl rfl rfl rfl rfl) rfl ?_)
  (refine nx (a_buildP (gN rfl) rfl rfl rfl rfl rfl rfl rfl rfl rfl rfl rfl) rfl ?_)
  (refine nx (a_alloc (gN rfl) rfl rfl rfl rfl rfl rfl rfl rfl rfl rfl) rfl ?_)
  (refine nx (aSt (gN rfl) rfl rfl rfl rfl rfl rfl rfl rfl rfl rfl) rfl ?_)
  show AWp _ _ _ _ _ _ _
  refine AWp.wk (wk_sub (s' := [(2, .val (.lst (c.map Lt.cv))), (4, .bp 4 0 []), (100004, .bx t.cw), (8, .bp 8 0 []), (100008, .bx (sgv S)), (9, .bp 9 0 []), (100009, .bx (sgv S))]) ⟨rfl, rfl, rfl, rfl, by rw [hS]; rfl, rfl, by rw [hS]; rfl, trivial⟩) ?_
  have o1 := of11_abs w c (by omega) (fun l hl => ⟨(hcf l hl).1.1.2.2, (hcf l hl).2.1.2.2⟩)
  refine aS (aR ?_)
  (refine nx (aM (gN rfl) rfl rfl rfl rfl rfl) rfl ?_)
  (refine nx (a_call (gN rfl) rfl rfl rfl rfl rfl (o1)) rfl ?_)
  (refine nx (aA (gN rfl) rfl rfl rfl rfl rfl) rfl ?_)
  show AWp _ _ _ _ _ _ _
  have hnm : S.nm.length ≤ 1000000 := by rw [hSn]; omega
  have hc' : ∀ l ∈ c, (l.a.sm ∧ l.b.sm) ∧ l.a.wt ≤ 12 ∧ l.b.wt ≤ 12 := fun l hl => ⟨⟨(hcf l hl).1.1.1, (hcf l hl).2.1.1⟩, by have := (hcf l hl).1.2.1; omega, by have := (hcf l hl).2.2.1; omega⟩
  have hS60 : ∀ x ∈ S.nm, x.length ≤ 60 := by rw [hSn]; exact hn60
  have hlk : ∀ l ∈ c, l.nk 1001 S.nm.length := fun l hl => ⟨sm_nk l.a (hc' l hl).1.1 (by have := (hc' l hl).2.1; omega), sm_nk l.b (hc' l hl).1.2 (by have := (hc' l hl).2.2; omega)⟩
  have rl : ∀ l ∈ c, AFun Tryd.prog w 22 [sgv S, l.cw] (.val (sv (txL S.nm l))) := fun l hl => by
    obtain ⟨x1, x2, x3⟩ := txL_le hS60 l (hc' l hl).1.1 (hc' l hl).1.2 (hc' l hl).2.1 (hc' l hl).2.2
    exact rfLit_abs w S l (rfTerm_abs w S hnm l.a (hc' l hl).1.1 (hcf l hl).1.1.2.2 (by omega)) (rfTerm_abs w S hnm l.b (hc' l hl).1.2 (hcf l hl).2.1.2.2 (by omega)) (by omega) (by omega)
  have hXl := txC_le hS60 c c6 hc'
  have hAl := txT_le hS60 t t1
  have rc := rfCls_abs w S c (by omega) rl (by omega)
  have pc := prCls_abs tb 1001 hI S hnm c (by omega) hlk (by omega)
  have pT := prTerm_abs tb 1001 hI S hnm t (sm_nk t t1 (by omega)) (by omega)
  have rT := rfTerm_abs w S hnm t t1 t3 (by omega)
  have oT := of_abs w t t3
  have pA := prAll_abs tb 1001 hI S hnm [c, c] (by simp) (fun d hd => by
    have : d = c := by simpa using hd
    rw [this]
    exact ⟨by omega, hlk⟩) (by unfold txA; simp; omega)
  have pN := prAll_abs tb 1001 hI S hnm [] (by simp) (fun d hd => by cases hd) (by simp [txA])
  rw [show txA S.nm [c, c] = txC S.nm c ++ [46, 10] ++ txC S.nm c ++ [46, 10] by simp [txA]] at pA
  rw [show txA S.nm [] = [] from rfl] at pN
  obtain ⟨X, hX⟩ : ∃ X, X = txC S.nm c := ⟨_, rfl⟩
  obtain ⟨A, hA⟩ : ∃ A, A = txT S.nm t := ⟨_, rfl⟩
  rw [← hX] at rc pc pA hXl
  rw [← hA] at pT rT
  refine AWp.wk (wk_sub (s' := [(2, .val (.lst (c.map Lt.cv))), (4, .bp 4 0 []), (100004, .bx t.cw), (8, .bp 8 0 []), (100008, .bx (sgv S)), (9, .bp 9 0 []), (100009, .bx (sgv S)), (10, .val (.lst (c.map Lt.cv)))]) ⟨rfl, rfl, rfl, rfl, rfl, rfl, rfl, rfl, trivial⟩) ?_
  refine aS (aS (aR ?_))
  (refine nx (aA (gN rfl) rfl rfl rfl rfl rfl) rfl ?_)
  show AWp _ _ _ _ _ _ _
  refine aB (awp_count c.length (fun k => [(2, .val (.lst (c.map Lt.cv))), (4, .bp 4 0 []), (100004, .bx t.cw), (8, .bp 8 0 []), (100008, .bx (sgv S)), (9, .bp 9 0 []), (100009, .bx (sgv S)), (10, .val (.lst (c.map Lt.cv))), (11, .val (.i (k : Int)))]) (wk_sub ⟨rfl, rfl, rfl, rfl, rfl, rfl, rfl, rfl, rfl, trivial⟩) ?_)
  intro k hk
  refine aS (aS (aR ?_))
  (refine nx (aM (gN rfl) rfl rfl rfl rfl rfl) rfl ?_)
  (refine nx (aM (gN rfl) rfl rfl rfl rfl rfl) rfl ?_)
  (refine nx (a_len (gN rfl) rfl rfl rfl rfl rfl rfl rfl) rfl ?_)
  (refine nx (a_lss (gN rfl) rfl rfl rfl rfl rfl rfl) rfl ?_)
  show AWp _ _ _ _ _ _ _
  refine aC rfl (fun hlt => ?_) (fun hlt => ?_)
  · have hkl : k < c.length := by
      have hlt : decide ((k : Int) < ((c.map Lt.cv).length : Int)) = true := hlt
      rw [hln] at hlt
      simpa using hlt
    obtain ⟨x, hx⟩ : ∃ x, c[k]? = some x := ⟨c[k], List.getElem?_eq_getElem hkl⟩
    have hx' := Lt.map_at hx
    have hxm := List.mem_of_getElem? hx
    have q1 := rl x hxm
    obtain ⟨x1, x2, x3⟩ := txL_le hS60 x (hc' x hxm).1.1 (hc' x hxm).1.2 (hc' x hxm).2.1 (hc' x hxm).2.2
    have q2 := prLit_abs tb 1001 hI S hnm x (hlk x hxm) (by omega)
    obtain ⟨Y, hY⟩ : ∃ Y, Y = txL S.nm x := ⟨_, rfl⟩
    rw [← hY] at q1 q2
    refine aK ?_
    show AWp _ _ _ _ _ _ _
    refine aS (aB (aS (aD (by kernel_rfl) (by kernel_rfl) ?_)))
    (refine nx (aL (gN rfl) rfl rfl rfl rfl rfl rfl rfl rfl rfl rfl rfl rfl) rfl ?_)
    (refine nx (aM (gN rfl) rfl rfl rfl rfl rfl) rfl ?_)
    (refine nx (aM (gN rfl) rfl rfl rfl rfl rfl) rfl ?_)
    (refine nx (a_index (j := k) (gN rfl) rfl rfl rfl rfl rfl rfl rfl rfl rfl (hx') rfl (hsz)) rfl ?_)
    (refine nx (a_load_ad (gN rfl) rfl rfl rfl rfl rfl rfl rfl rfl rfl) rfl ?_)
    (refine nx (a_callT hT (gN rfl) rfl rfl rfl rfl rfl (q2)) rfl ?_)
    (refine nx (aL (gN rfl) rfl rfl rfl rfl rfl rfl rfl rfl rfl rfl rfl rfl) rfl ?_)
    (refine nx (aM (gN rfl) rfl rfl rfl rfl rfl) rfl ?_)
    (refine nx (aM (gN rfl) rfl rfl rfl rfl rfl) rfl ?_)
    (refine nx (a_index (j := k) (gN rfl) rfl rfl rfl rfl rfl rfl rfl rfl rfl (hx') rfl (hsz)) rfl ?_)
    (refine nx (a_load_ad (gN rfl) rfl rfl rfl rfl rfl rfl rfl rfl rfl) rfl ?_)
    (refine nx (a_call (gN rfl) rfl rfl rfl rfl rfl (q1)) rfl ?_)
    (refine nx (a_sneq (gN rfl) rfl rfl rfl rfl rfl rfl rfl) rfl ?_)
    refine ⟨by kernel_rfl, ?_⟩
    show AWp _ _ _ _ _ _ _
    refine aC rfl (fun hc2 => by have hc2 : (!decide (Y = Y)) = true := hc2; simp at hc2) (fun hc2 => aK ?_)
    show AWp _ _ _ _ _ _ _
    refine aR ?_
    (refine nx (aM (gN rfl) rfl rfl rfl rfl rfl) rfl ?_)
    (refine nx (a_add (gN rfl) rfl rfl rfl rfl rfl rfl (by first | omega | (simp only [List.length_map, List.length_append, List.length_cons, List.length_nil] <;> omega) | (simp <;> omega))) rfl ?_)
    (refine nx (aA (gN rfl) rfl rfl rfl rfl rfl) rfl ?_)
    exact ⟨hkl, wk_sub ⟨rfl, rfl, rfl, rfl, rfl, rfl, rfl, rfl, rfl, trivial⟩⟩
  refine aE ?_
  show AWp _ _ _ _ _ _ _
  refine aS (aR ?_)
  (refine nx (aL (gN rfl) rfl rfl rfl rfl rfl rfl rfl rfl rfl rfl rfl rfl) rfl ?_)
  (refine nx (aM (gN rfl) rfl rfl rfl rfl rfl) rfl ?_)
  (refine nx (a_call (gN rfl) rfl rfl rfl rfl rfl (rc)) rfl ?_)
  (refine nx (aA (gN rfl) rfl rfl rfl rfl rfl) rfl ?_)
  show AWp _ _ _ _ _ _ _
  refine AWp.wk (wk_sub (s' := [(4, .bp 4 0 []), (100004, .bx t.cw), (8, .bp 8 0 []), (100008, .bx (sgv S)), (9, .bp 9 0 []), (100009, .bx (sgv S)), (10, .val (.lst (c.map Lt.cv))), (12, .val (sv X))]) ⟨rfl, rfl, rfl, rfl, rfl, rfl, rfl, rfl, trivial⟩) ?_
  have h2 : ([46, 10] : By).length = 2 := rfl
  refine aS (aD (by kernel_rfl) (by kernel_rfl) ?_)
  (refine nx (aL (gN rfl) rfl rfl rfl rfl rfl rfl rfl rfl rfl rfl rfl rfl) rfl ?_)
  (refine nx (aL (gN rfl) rfl rfl rfl rfl rfl rfl rfl rfl rfl rfl rfl rfl) rfl ?_)
  (refine nx (a_call (gN rfl) rfl rfl rfl rfl rfl (oT)) rfl ?_)
  (refine nx (a_callT hT (gN rfl) rfl rfl rfl rfl rfl (pT)) rfl ?_)
  (refine nx (aL (gN rfl) rfl rfl rfl rfl rfl rfl rfl rfl rfl rfl rfl rfl) rfl ?_)
  (refine nx (aL (gN rfl) rfl rfl rfl rfl rfl rfl rfl rfl rfl rfl rfl rfl) rfl ?_)
  (refine nx (a_call (gN rfl) rfl rfl rfl rfl rfl (rT)) rfl ?_)
  (refine nx (a_seql (gN rfl) rfl rfl rfl rfl rfl rfl rfl) rfl ?_)
  (refine nx (aM (gN rfl) rfl rfl rfl rfl rfl) rfl ?_)
  (refine nx (aL (gd_on rfl rfl rfl rfl (by first | rfl | assumption | (simp; done))) rfl rfl rfl rfl rfl rfl rfl rfl rfl rfl rfl rfl) rfl ?_)
  (refine nx (aM (gd_on rfl rfl rfl rfl (by first | rfl | assumption | (simp; done))) rfl rfl rfl rfl rfl) rfl ?_)
  (refine nx (a_callT hT (gd_on rfl rfl rfl rfl (by first | rfl | assumption | (simp; done))) rfl rfl rfl rfl rfl (pc)) rfl ?_)
  (refine nx (aM (gd_on rfl rfl rfl rfl (by first | rfl | assumption | (simp; done))) rfl rfl rfl rfl rfl) rfl ?_)
  (refine nx (a_seql (gd_on rfl rfl rfl rfl (by first | rfl | assumption | (simp; done))) rfl rfl rfl rfl rfl rfl rfl) rfl ?_)
  (refine ⟨_, _, _, aPt (gN rfl) rfl rfl rfl rfl rfl ?hb rfl, rfl, ?_⟩; case hb => (first | rfl | assumption | (simp; done)))
  (refine nx (aM (gN rfl) rfl rfl rfl rfl rfl) rfl ?_)
  (refine nx (aL (gd_on rfl rfl rfl rfl (by first | rfl | assumption | (simp; done))) rfl rfl rfl rfl rfl rfl rfl rfl rfl rfl rfl rfl) rfl ?_)
  (refine nx (aM (gd_on rfl rfl rfl rfl (by first | rfl | assumption | (simp; done))) rfl rfl rfl rfl rfl) rfl ?_)
  (refine nx (aM (gd_on rfl rfl rfl rfl (by first | rfl | assumption | (simp; done))) rfl rfl rfl rfl rfl) rfl ?_)
  (refine nx (a_bslice (gd_on rfl rfl rfl rfl (by first | rfl | assumption | (simp; done))) rfl rfl rfl rfl rfl rfl rfl rfl rfl rfl rfl rfl rfl) rfl ?_)
  (refine nx (a_callT hT (gd_on rfl rfl rfl rfl (by first | rfl | assumption | (simp; done))) rfl rfl rfl rfl rfl (pA)) rfl ?_)
  (refine nx (aM (gd_on rfl rfl rfl rfl (by first | rfl | assumption | (simp; done))) rfl rfl rfl rfl rfl) rfl ?_)
  (refine nx (a_sadd (gd_on rfl rfl rfl rfl (by first | rfl | assumption | (simp; done))) rfl rfl rfl rfl rfl rfl (by first | omega | (simp only [List.length_map, List.length_append, List.length_cons, List.length_nil] <;> omega) | (simp <;> omega))) rfl ?_)
  (refine nx (aM (gd_on rfl rfl rfl rfl (by first | rfl | assumption | (simp; done))) rfl rfl rfl rfl rfl) rfl ?_)
  (refine nx (a_sadd (gd_on rfl rfl rfl rfl (by first | rfl | assumption | (simp; done))) rfl rfl rfl rfl rfl rfl (by first | omega | (simp only [List.length_map, List.length_append, List.length_cons, List.length_nil] <;> omega) | (simp <;> omega))) rfl ?_)
  (refine nx (a_sadd (gd_on rfl rfl rfl rfl (by first | rfl | assumption | (simp; done))) rfl rfl rfl rfl rfl rfl (by first | omega | (simp only [List.length_map, List.length_append, List.length_cons, List.length_nil] <;> omega) | (simp <;> omega))) rfl ?_)
  (refine nx (a_seql (gd_on rfl rfl rfl rfl (by first | rfl | assumption | (simp; done))) rfl rfl rfl rfl rfl rfl rfl) rfl ?_)
  (refine ⟨_, _, _, aPt (gN rfl) rfl rfl rfl rfl rfl ?hb rfl, rfl, ?_⟩; case hb => (first | rfl | assumption | (simp; done)))
  (refine nx (aM (gN rfl) rfl rfl rfl rfl rfl) rfl ?_)
  (refine nx (aL (gd_on rfl rfl rfl rfl (by first | rfl | assumption | (simp; done))) rfl rfl rfl rfl rfl rfl rfl rfl rfl rfl rfl rfl) rfl ?_)
  (refine nx (a_callT hT (gd_on rfl rfl rfl rfl (by first | rfl | assumption | (simp; done))) rfl rfl rfl rfl rfl (pN)) rfl ?_)
  (refine nx (a_seql (gd_on rfl rfl rfl rfl (by first | rfl | assumption | (simp; done))) rfl rfl rfl rfl rfl rfl rfl) rfl ?_)
  (refine ⟨_, _, _, aPt (gN rfl) rfl rfl rfl rfl rfl ?hb rfl, rfl, ?_⟩; case hb => (first | rfl | assumption | (simp; done)))
  (refine nx (aA (gN rfl) rfl rfl rfl rfl rfl) rfl ?_)
  refine ⟨by kernel_rfl, ?_⟩
  show AWp _ _ _ _ _ _ _
  exact aT (And.intro (.inr rfl) rfl)
theorem printTexts_tab {w : World} (h : Lib.TabIs Tryd.prog w "internal/strconv.uint64pow10" .u64 Lib.pow10Tab) : ∃ tb, Tb tb (fun _ => False) w ∧ ItoaN tb 1001 := tb_of h
theorem shp_strs {n : Nat} {c : CV} (h : Shp Tryd.prog n 23 c) : ∃ l : List By, c = .lst (l.map sv) := by
  cases n with
  | zero => exact h.elim
  | succ n =>
    rw [Shp, Tryd.underlying23] at h
    obtain ⟨l, rfl, hl⟩ := h
    obtain ⟨m, h1, _⟩ := list_of sv (fun _ => True) (l := l) (fun x hx => by
      have hx := hl x hx
      cases n with
      | zero => exact hx.elim
      | succ n =>
        have hx : Shp Tryd.prog (n + 1) 9 x := hx
        rw [Shp, Tryd.underlying9] at hx
        obtain ⟨s, rfl, _⟩ := hx
        exact ⟨s.data.toList, by show CV.sc (Value.string s) = CV.sc (Value.string ⟨s.data.toList.toArray⟩); rw [Array.toArray_toList], trivial⟩)
    exact ⟨m, by rw [h1]⟩
theorem shp_bool {n : Nat} {c : CV} (h : Shp Tryd.prog n 4 c) : ∃ b, c = .b b := by
  cases n with
  | zero => exact h.elim
  | succ n =>
    rw [Shp, Tryd.underlying4] at h
    exact h
theorem shp_lits {n : Nat} {c : CV} (h : Shp Tryd.prog n 39 c) : ∃ l : List Lt, c = .lst (l.map Lt.cv) ∧ okC l := by
  cases n with
  | zero => exact h.elim
  | succ n =>
    rw [Shp, Tryd.underlying39] at h
    obtain ⟨l, rfl, hl⟩ := h
    obtain ⟨m, h1, h2⟩ := list_of Lt.cv (fun l => l.a.rng ∧ l.b.rng) (l := l) (fun x hx => by
      have hx := hl x hx
      cases n with
      | zero => exact hx.elim
      | succ n =>
        have hx : Shp Tryd.prog (n + 1) 60 x := hx
        rw [Shp, Tryd.underlying60] at hx
        obtain ⟨l, rfl, hl, hf⟩ := hx
        match l, hl with
        | [x, y, z], _ =>
          obtain ⟨b, rfl⟩ := shp_bool (hf 0 _ x rfl rfl)
          obtain ⟨t, rfl, ht⟩ := shp_tm n (hf 1 _ y rfl rfl)
          obtain ⟨u, rfl, hu⟩ := shp_tm n (hf 2 _ z rfl rfl)
          exact ⟨⟨b, t, u⟩, rfl, ht, hu⟩)
    exact ⟨m, by rw [h1], h2⟩
end Go.Proofs.YtebhbnhijnpmcaaDoor

