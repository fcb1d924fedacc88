/-
  RfFlat RfVars AbOf SbVnt SbRen ClMath PsNm AbRoom AbBox AbIter AbRange AbMark PsTok AbMapR AbEnds PsNames PsRead PsRead2 AbNew PsRead3
-/
import Derived.Test.YtglbohajmccehaaDoorMg2
import Derived.Test.YtglbohajmccehaaDoorPsShelf
import Derived.Lib.IndexLaws
import Derived.Maps.RangeRun
namespace Go.Proofs.YtglbohajmccehaaDoor
open Go.RowKit
set_option linter.unusedVariables false
set_option linter.unusedSimpArgs false
set_option maxRecDepth 100000
-- 
set_option maxHeartbeats 1000000 in
theorem to_abs (W : World) : ∀ (t : Tm), t.ok → AFun Tryd.prog W 21 [t.cw] (.val t.strip.cw) := by
  intro t
  induction t using Tm.ind with
  | h f l ih =>
  intro hok
  obtain ⟨hl, hok⟩ := (Tm.ok_iff _).1 hok
  simp only at hl hok
  have hsz := Tm.size_all l
  refine afun_of (rs := [(Tm.strip ⟨f, l⟩).cw]) Tryd.func21 Tryd.ntmps21 rfl rfl rfl rfl ?_
  intro w U hW
  refine aS (aR ?_)
  (refine nx (a_box (gN rfl) rfl rfl rfl rfl rfl) rfl ?_)
  (refine nx (a_alloc (gN rfl) rfl rfl rfl rfl rfl rfl rfl rfl rfl rfl) rfl ?_)
  show AWp _ _ _ _ _ _ _
  refine aS (aR ?_)
  (refine nx (aF (gN rfl) rfl rfl rfl rfl rfl rfl rfl rfl rfl) rfl ?_)
  (refine nx (aLb (gN rfl) rfl rfl rfl rfl rfl rfl rfl rfl rfl rfl rfl rfl) rfl ?_)
  (refine nx (a_build (gN rfl) rfl rfl rfl rfl rfl rfl rfl rfl rfl rfl rfl) rfl ?_)
  (refine nx (a_alloc (gN rfl) rfl rfl rfl rfl rfl rfl rfl rfl rfl rfl) rfl ?_)
  (refine nx (aSt (gN rfl) rfl rfl rfl rfl rfl rfl rfl rfl rfl rfl) rfl ?_)
  show AWp _ _ _ _ _ _ _
  refine aS (aS (aR ?_))
  (refine nx (aA (gN rfl) rfl rfl rfl rfl rfl) rfl ?_)
  show AWp _ _ _ _ _ _ _
  by_cases hf : f < 0
  · have hg : decide (f ≥ 0) = false := by simpa using hf
    rw [show (Tm.strip ⟨f, l⟩) = ⟨f, []⟩ by rw [Tm.strip_eq, Tm.ps_of_var (t := ⟨f, l⟩) hf]; rfl]
    refine aB (awp_count 0 (fun k => [(1, .bp 1 0 []), (100001, .bx (Tm.cw ⟨f, l⟩)), (2, .bp 2 0 []), (100002, ⟨5, .row [.i 0, .lst []], 1, 0, [1]⟩), (3, .bp 3 0 []), (100003, ⟨5, .row [.i f, .lst []], 1, 0, [1]⟩), (4, .val (.i k))]) (wk_sub ⟨rfl, rfl, rfl, rfl, rfl, rfl, rfl, trivial⟩) ?_)
    intro k hk
    refine aS (aS (aR ?_))
    (refine nx (aF (gN rfl) rfl rfl rfl rfl rfl rfl rfl rfl rfl) rfl ?_)
    (refine nx (aLb (gN rfl) rfl rfl rfl rfl rfl rfl rfl rfl rfl rfl rfl rfl) rfl ?_)
    (refine nx (a_geq (gN rfl) rfl rfl rfl rfl rfl rfl) rfl ?_)
    (refine nx (aM (gN rfl) rfl rfl rfl rfl rfl) rfl ?_)
    (refine ⟨_, _, _, a_off (go_off rfl rfl rfl rfl (by first | rfl | assumption | (simp; done) | (simp [*]; done))) rfl rfl rfl, rfl, ?_⟩)
    (refine ⟨_, _, _, a_off (go_off rfl rfl rfl rfl (by first | rfl | assumption | (simp; done) | (simp [*]; done))) rfl rfl rfl, rfl, ?_⟩)
    (refine ⟨_, _, _, a_off (go_off rfl rfl rfl rfl (by first | rfl | assumption | (simp; done) | (simp [*]; done))) rfl rfl rfl, rfl, ?_⟩)
    (refine ⟨_, _, _, a_off (go_off rfl rfl rfl rfl (by first | rfl | assumption | (simp; done) | (simp [*]; done))) rfl rfl rfl, rfl, ?_⟩)
    (refine ⟨_, _, _, a_off (go_off rfl rfl rfl rfl (by first | rfl | assumption | (simp; done) | (simp [*]; done))) rfl rfl rfl, rfl, ?_⟩)
    (refine ⟨_, _, _, aPf (gN rfl) rfl rfl rfl rfl rfl ?hb rfl, rfl, ?_⟩; case hb => (first | rfl | assumption | (simp; done)))
    show AWp _ _ _ _ _ _ _
    refine aC rfl (fun hc => by cases hc) (fun hc => aE ?_)
    show AWp _ _ _ _ _ _ _
    refine aS (aR ?_)
    (refine nx (aL (gN rfl) rfl rfl rfl rfl rfl rfl rfl rfl rfl rfl rfl rfl) rfl ?_)
    (refine nx (aSt (gN rfl) rfl rfl rfl rfl rfl rfl rfl rfl rfl rfl) rfl ?_)
    show AWp _ _ _ _ _ _ _
    exact aT (And.intro (.inr rfl) rfl)
  have hg : decide (f ≥ 0) = true := by simp only [decide_eq_true_eq]; omega
  rw [show (Tm.strip ⟨f, l⟩) = ⟨f, l.map Tm.strip⟩ by rw [Tm.strip_eq, Tm.ps_of_sym (t := ⟨f, l⟩) (by show 0 ≤ f; omega)]]
  refine aB (awp_count l.length (fun k => [(1, .bp 1 0 []), (100001, .bx (Tm.cw ⟨f, l⟩)), (2, .bp 2 0 []), (100002, ⟨5, .row [.i 0, .lst []], 1, 0, [1]⟩), (3, .bp 3 0 []), (100003, ⟨5, .row [.i f, .lst (((l.take k).map Tm.strip).map Tm.cv)], 200029, 0, [1]⟩), (200029, .tok 64 2), (4, .val (.i k))])
    ((wk_nil 100003 200029 64 2 rfl rfl rfl rfl rfl rfl rfl).trans (wk_sub ⟨rfl, rfl, rfl, rfl, rfl, rfl, rfl, rfl, trivial⟩)) ?_)
  intro k hk
  refine aS (aS (aR ?_))
  (refine nx (aF (gN rfl) rfl rfl rfl rfl rfl rfl rfl rfl rfl) rfl ?_)
  (refine nx (aLb (gN rfl) rfl rfl rfl rfl rfl rfl rfl rfl rfl rfl rfl rfl) rfl ?_)
  (refine nx (a_geq (gN rfl) rfl rfl rfl rfl rfl rfl) rfl ?_)
  (refine nx (aM (gN rfl) rfl rfl rfl rfl rfl) rfl ?_)
  (refine nx (aM (gd_on rfl rfl rfl rfl (by first | rfl | assumption | (simp; done))) rfl rfl rfl rfl rfl) rfl ?_)
  (refine nx (aF (gd_on rfl rfl rfl rfl (by first | rfl | assumption | (simp; done))) rfl rfl rfl rfl rfl rfl rfl rfl rfl) rfl ?_)
  (refine nx (aLb (gd_on rfl rfl rfl rfl (by first | rfl | assumption | (simp; done))) rfl rfl rfl rfl rfl rfl rfl rfl rfl rfl rfl rfl) rfl ?_)
  (refine nx (a_len (gd_on rfl rfl rfl rfl (by first | rfl | assumption | (simp; done))) rfl rfl rfl rfl rfl rfl rfl) rfl ?_)
  (refine nx (a_lss (gd_on rfl rfl rfl rfl (by first | rfl | assumption | (simp; done))) rfl rfl rfl rfl rfl rfl) rfl ?_)
  (refine ⟨_, _, _, aPt (gN rfl) rfl rfl rfl rfl rfl ?hb rfl, rfl, ?_⟩; case hb => (first | rfl | assumption | (simp; done)))
  show AWp _ _ _ _ _ _ _
  refine aC rfl (fun hc => aK ?_) (fun hc => aE ?_)
  · have hkl : k < l.length := by
      simp only [List.length_map, decide_eq_true_eq] at hc
      omega
    clear hc
    obtain ⟨t, ht⟩ : ∃ t, l[k]? = some t := ⟨l[k], List.getElem?_eq_getElem hkl⟩
    have ht' := Tm.map_at ht
    have htm := List.mem_of_getElem? ht
    show AWp _ _ _ _ _ _ _
    refine aS (aB (aD (by kernel_rfl) (by kernel_rfl) ?_))
    (refine nx (aF (gN rfl) rfl rfl rfl rfl rfl rfl rfl rfl rfl) rfl ?_)
    (refine nx (a_load_tok (gN rfl) rfl rfl rfl rfl rfl rfl rfl rfl rfl rfl rfl rfl rfl) rfl ?_)
    (refine nx (aF (gN rfl) rfl rfl rfl rfl rfl rfl rfl rfl rfl) rfl ?_)
    (refine nx (aLb (gN rfl) rfl rfl rfl rfl rfl rfl rfl rfl rfl rfl rfl rfl) rfl ?_)
    (refine nx (aM (gN rfl) rfl rfl rfl rfl rfl) rfl ?_)
    (refine nx (a_index (gN rfl) rfl rfl rfl rfl rfl rfl rfl rfl rfl (by assumption) rfl (by first | assumption | exact sZ rfl | exact Tm.size_all _ | exact Bd.size_all _ | exact ints_size _ | exact bys_size _ | exact Lt.size_all _)) rfl ?_)
    (refine nx (a_load_ad (gN rfl) rfl rfl rfl rfl rfl rfl rfl rfl rfl) rfl ?_)
    (refine nx (a_call (gN rfl) rfl rfl rfl rfl rfl ((ih t htm (hok t htm)).up hW)) rfl ?_)
    (refine nx (a_bslice (gN rfl) rfl rfl rfl rfl rfl rfl rfl rfl rfl rfl rfl rfl rfl) rfl ?_)
    (refine nx (a_app (gN rfl) rfl rfl rfl rfl rfl rfl rfl rfl rfl rfl rfl rfl rfl rfl rfl (by first | assumption | exact sZ rfl | exact Tm.size_all _ | exact Bd.size_all _ | exact ints_size _ | exact bys_size _ | exact Lt.size_all _) (by first | assumption | exact sZ rfl | exact Tm.size_all _ | exact Bd.size_all _ | exact ints_size _ | exact bys_size _ | exact Lt.size_all _) (by first | omega | (simp only [List.length_map, List.length_append, List.length_cons, List.length_nil] <;> omega) | (simp <;> omega))) rfl ?_)
    (refine nx (aF (gN rfl) rfl rfl rfl rfl rfl rfl rfl rfl rfl) rfl ?_)
    (refine nx (a_store (gN rfl) rfl rfl rfl rfl rfl rfl rfl rfl rfl rfl) rfl ?_)
    refine ⟨by kernel_rfl, ?_⟩
    show AWp _ _ _ _ _ _ _
    refine aR ?_
    (refine nx (aM (gN rfl) rfl rfl rfl rfl rfl) rfl ?_)
    (first | (refine nx (a_add (gN rfl) rfl rfl rfl rfl rfl rfl (by first | omega | (simp only [List.length_map, List.length_append, List.length_cons, List.length_nil] <;> omega) | (simp <;> omega))) rfl ?_) | (refine nx (a_sadd (gN rfl) rfl rfl rfl rfl rfl rfl (by first | omega | (simp only [List.length_map, List.length_append, List.length_cons, List.length_nil] <;> omega) | (simp <;> omega))) (by first | rfl | kernel_rfl) ?_))
    (refine nx (aA (gN rfl) rfl rfl rfl rfl rfl) rfl ?_)
    refine ⟨hkl, Wk.trans (wk_sub (s' := [(1, .bp 1 0 []), (100001, .bx (Tm.cw ⟨f, l⟩)), (2, .bp 2 0 []), (100002, ⟨5, .row [.i 0, .lst []], 1, 0, [1]⟩), (3, .bp 3 0 []), (100003, ⟨5, .row [.i f, .lst (((l.take (k + 1)).map Tm.strip).map Tm.cv)], 300029, 0, [1]⟩), (300029, .tok 64 2), (4, .val (.i ((k + 1 : Nat) : Int)))]) ⟨rfl, rfl, rfl, rfl, rfl, ?_, rfl, rfl, trivial⟩) (wk_ren 300029 200029 rfl rfl rfl rfl)⟩
    rw [List.take_add_one, ht, List.map_append, List.map_append]
    simp only [Option.toList_some, List.map_cons, List.map_nil, Tm.cv_eq]
    rfl
  · have hkl : k = l.length := by
      simp only [List.length_map, decide_eq_false_iff_not] at hc
      omega
    subst hkl
    rw [List.take_length]
    show AWp _ _ _ _ _ _ _
    refine aS (aR ?_)
    (refine nx (aL (gN rfl) rfl rfl rfl rfl rfl rfl rfl rfl rfl rfl rfl rfl) rfl ?_)
    (refine nx (aSt (gN rfl) rfl rfl rfl rfl rfl rfl rfl rfl rfl rfl) rfl ?_)
    show AWp _ _ _ _ _ _ _
    exact aT (And.intro (.inr rfl) rfl)

theorem flat_len_take (l : List Tm) (k : Nat) : ((l.take k).flatMap Tm.flat).length ≤ (l.flatMap Tm.flat).length := by
  conv => rhs; rw [← List.take_append_drop k l, List.flatMap_append, List.length_append]
  omega
-- 
set_option maxHeartbeats 1000000 in
theorem refFlat_abs (W : World) : ∀ (t : Tm), t.ok → t.size ≤ 90000000000 → AFun Tryd.prog W 30 [t.cw] (.val (.lst (t.flat.map Tm.cv))) := by
  intro t
  induction t using Tm.ind with
  | h f l ih =>
  intro hok hts
  obtain ⟨hl, hok⟩ := (Tm.ok_iff _).1 hok
  simp only at hl hok
  have hsz := Tm.size_all l
  refine afun_of (rs := [.lst ((Tm.flat ⟨f, l⟩).map Tm.cv)]) Tryd.func30 Tryd.ntmps30 rfl rfl rfl rfl ?_
  intro w U hW
  refine aS (aR ?_)
  (refine nx (a_box (gN rfl) rfl rfl rfl rfl rfl) rfl ?_)
  (refine nx (aA (gN rfl) rfl rfl rfl rfl rfl) rfl ?_)
  show AWp _ _ _ _ _ _ _
  refine aS (aR ?_)
  (refine nx (aL (gN rfl) rfl rfl rfl rfl rfl rfl rfl rfl rfl rfl rfl rfl) rfl ?_)
  (refine nx (a_bsliceT (gN rfl) rfl rfl rfl rfl rfl rfl rfl rfl rfl rfl rfl rfl rfl rfl) rfl ?_)
  (refine nx (aA (gN rfl) rfl rfl rfl rfl rfl) rfl ?_)
  show AWp _ _ _ _ _ _ _
  refine aS (aS (aR ?_))
  (refine nx (aA (gN rfl) rfl rfl rfl rfl rfl) rfl ?_)
  show AWp _ _ _ _ _ _ _
  have e0 : look [(3, AV.own (.lst [Tm.cw ⟨f, l⟩]) 300006)] 3 = some (.own (.lst ([Tm.mk f l].map Tm.cv)) 300006) := by
    simp only [List.map_cons, List.map_nil, Tm.cv_eq]
    rfl
  by_cases hf : f < 0
  · have hg : decide (f ≥ 0) = false := by simpa using hf
    rw [show Tm.flat ⟨f, l⟩ = [⟨f, l⟩] by rw [Tm.flat_eq, Tm.ps_of_var (t := ⟨f, l⟩) hf]; rfl]
    refine aB (awp_count 0 (fun k => [(1, .bp 1 0 []), (100001, .bx (Tm.cw ⟨f, l⟩)), (3, .val (.lst ([Tm.mk f l].map Tm.cv))), (4, .val (.i k))]) (Wk.trans (wk_sub (s' := [(1, .bp 1 0 []), (100001, .bx (Tm.cw ⟨f, l⟩)), (3, .own (.lst ([Tm.mk f l].map Tm.cv)) 300006), (4, .val (.i (0 : Nat)))]) ⟨rfl, rfl, e0, rfl, trivial⟩) (wk_plain 3 rfl)) ?_)
    intro k hk
    refine aS (aS (aR ?_))
    (refine nx (aF (gN rfl) rfl rfl rfl rfl rfl rfl rfl rfl rfl) rfl ?_)
    (refine nx (aLb (gN rfl) rfl rfl rfl rfl rfl rfl rfl rfl rfl rfl rfl rfl) rfl ?_)
    (refine nx (a_geq (gN rfl) rfl rfl rfl rfl rfl rfl) rfl ?_)
    (refine nx (aM (gN rfl) rfl rfl rfl rfl rfl) rfl ?_)
    (refine ⟨_, _, _, a_off (go_off rfl rfl rfl rfl (by first | rfl | assumption | (simp; done) | (simp [*]; done))) rfl rfl rfl, rfl, ?_⟩)
    (refine ⟨_, _, _, a_off (go_off rfl rfl rfl rfl (by first | rfl | assumption | (simp; done) | (simp [*]; done))) rfl rfl rfl, rfl, ?_⟩)
    (refine ⟨_, _, _, a_off (go_off rfl rfl rfl rfl (by first | rfl | assumption | (simp; done) | (simp [*]; done))) rfl rfl rfl, rfl, ?_⟩)
    (refine ⟨_, _, _, a_off (go_off rfl rfl rfl rfl (by first | rfl | assumption | (simp; done) | (simp [*]; done))) rfl rfl rfl, rfl, ?_⟩)
    (refine ⟨_, _, _, a_off (go_off rfl rfl rfl rfl (by first | rfl | assumption | (simp; done) | (simp [*]; done))) rfl rfl rfl, rfl, ?_⟩)
    (refine ⟨_, _, _, aPf (gN rfl) rfl rfl rfl rfl rfl ?hb rfl, rfl, ?_⟩; case hb => (first | rfl | assumption | (simp; done)))
    show AWp _ _ _ _ _ _ _
    refine aC rfl (fun hc => by cases hc) (fun hc => aE ?_)
    show AWp _ _ _ _ _ _ _
    refine aS (aR ?_)
    (refine nx (aM (gN rfl) rfl rfl rfl rfl rfl) rfl ?_)
    (refine nx (aA (gN rfl) rfl rfl rfl rfl rfl) rfl ?_)
    show AWp _ _ _ _ _ _ _
    exact aT (And.intro (.inr rfl) rfl)
  have hg : decide (f ≥ 0) = true := by simp only [decide_eq_true_eq]; omega
  have hfl : Tm.flat ⟨f, l⟩ = ⟨f, l⟩ :: l.flatMap Tm.flat := by rw [Tm.flat_eq, Tm.ps_of_sym (t := ⟨f, l⟩) (by show 0 ≤ f; omega)]
  unfold Tm.size at hts
  rw [hfl] at hts ⊢
  rw [List.length_cons] at hts
  refine aB (awp_count l.length (fun k => [(1, .bp 1 0 []), (100001, .bx (Tm.cw ⟨f, l⟩)), (3, .own (.lst ((Tm.mk f l :: (l.take k).flatMap Tm.flat).map Tm.cv)) 200026), (200026, .tok 64 2), (4, .val (.i k))])
    (Wk.trans (wk_sub (s' := [(1, .bp 1 0 []), (100001, .bx (Tm.cw ⟨f, l⟩)), (3, .own (.lst ([Tm.mk f l].map Tm.cv)) 300006), (300006, .tok 64 2), (4, .val (.i (0 : Nat)))]) ⟨rfl, rfl, e0, rfl, rfl, trivial⟩) (wk_ren 300006 200026 rfl rfl rfl rfl)) ?_)
  intro k hk
  refine aS (aS (aR ?_))
  (refine nx (aF (gN rfl) rfl rfl rfl rfl rfl rfl rfl rfl rfl) rfl ?_)
  (refine nx (aLb (gN rfl) rfl rfl rfl rfl rfl rfl rfl rfl rfl rfl rfl rfl) rfl ?_)
  (refine nx (a_geq (gN rfl) rfl rfl rfl rfl rfl rfl) rfl ?_)
  (refine nx (aM (gN rfl) rfl rfl rfl rfl rfl) rfl ?_)
  (refine nx (aM (gd_on rfl rfl rfl rfl (by first | rfl | assumption | (simp; done))) rfl rfl rfl rfl rfl) rfl ?_)
  (refine nx (aF (gd_on rfl rfl rfl rfl (by first | rfl | assumption | (simp; done))) rfl rfl rfl rfl rfl rfl rfl rfl rfl) rfl ?_)
  (refine nx (aLb (gd_on rfl rfl rfl rfl (by first | rfl | assumption | (simp; done))) rfl rfl rfl rfl rfl rfl rfl rfl rfl rfl rfl rfl) rfl ?_)
  (refine nx (a_len (gd_on rfl rfl rfl rfl (by first | rfl | assumption | (simp; done))) rfl rfl rfl rfl rfl rfl rfl) rfl ?_)
  (refine nx (a_lss (gd_on rfl rfl rfl rfl (by first | rfl | assumption | (simp; done))) rfl rfl rfl rfl rfl rfl) rfl ?_)
  (refine ⟨_, _, _, aPt (gN rfl) rfl rfl rfl rfl rfl ?hb rfl, rfl, ?_⟩; case hb => (first | rfl | assumption | (simp; done)))
  show AWp _ _ _ _ _ _ _
  refine aC rfl (fun hc => aK ?_) (fun hc => aE ?_)
  · have hkl : k < l.length := by
      simp only [List.length_map, decide_eq_true_eq] at hc
      omega
    clear hc
    obtain ⟨t, ht⟩ : ∃ t, l[k]? = some t := ⟨l[k], List.getElem?_eq_getElem hkl⟩
    have ht' := Tm.map_at ht
    have htm := List.mem_of_getElem? ht
    have hb1 := flat_len_take l k
    have hb2 := flatMap_len_mem Tm.flat htm
    have hb3 := flat_len_take l (k + 1)
    rw [List.take_add_one, ht, List.flatMap_append, List.length_append] at hb3
    simp only [Option.toList_some, List.flatMap_cons, List.flatMap_nil, List.append_nil] at hb3
    show AWp _ _ _ _ _ _ _
    refine aS (aB (aR ?_))
    (refine nx (aM (gN rfl) rfl rfl rfl rfl rfl) rfl ?_)
    (refine nx (aF (gN rfl) rfl rfl rfl rfl rfl rfl rfl rfl rfl) rfl ?_)
    (refine nx (aLb (gN rfl) rfl rfl rfl rfl rfl rfl rfl rfl rfl rfl rfl rfl) rfl ?_)
    (refine nx (aM (gN rfl) rfl rfl rfl rfl rfl) rfl ?_)
    (refine nx (a_index (gN rfl) rfl rfl rfl rfl rfl rfl rfl rfl rfl (by assumption) rfl (by first | assumption | exact sZ rfl | exact Tm.size_all _ | exact Bd.size_all _ | exact ints_size _ | exact bys_size _ | exact Lt.size_all _)) rfl ?_)
    (refine nx (a_load_ad (gN rfl) rfl rfl rfl rfl rfl rfl rfl rfl rfl) rfl ?_)
    (refine nx (a_call (gN rfl) rfl rfl rfl rfl rfl ((ih t htm (hok t htm) (by unfold Tm.size; omega)).up hW)) rfl ?_)
    (refine nx (a_app (gN rfl) rfl rfl rfl rfl rfl rfl rfl rfl rfl rfl rfl rfl rfl rfl rfl (by first | assumption | exact sZ rfl | exact Tm.size_all _ | exact Bd.size_all _ | exact ints_size _ | exact bys_size _ | exact Lt.size_all _) (by first | assumption | exact sZ rfl | exact Tm.size_all _ | exact Bd.size_all _ | exact ints_size _ | exact bys_size _ | exact Lt.size_all _) (by first | omega | (simp only [List.length_map, List.length_append, List.length_cons, List.length_nil] <;> omega) | (simp <;> omega))) rfl ?_)
    (refine nx (aA (gN rfl) rfl rfl rfl rfl rfl) rfl ?_)
    show AWp _ _ _ _ _ _ _
    refine aR ?_
    (refine nx (aM (gN rfl) rfl rfl rfl rfl rfl) rfl ?_)
    (first | (refine nx (a_add (gN rfl) rfl rfl rfl rfl rfl rfl (by first | omega | (simp only [List.length_map, List.length_append, List.length_cons, List.length_nil] <;> omega) | (simp <;> omega))) rfl ?_) | (refine nx (a_sadd (gN rfl) rfl rfl rfl rfl rfl rfl (by first | omega | (simp only [List.length_map, List.length_append, List.length_cons, List.length_nil] <;> omega) | (simp <;> omega))) (by first | rfl | kernel_rfl) ?_))
    (refine nx (aA (gN rfl) rfl rfl rfl rfl rfl) rfl ?_)
    refine ⟨hkl, Wk.trans (wk_sub (s' := [(1, .bp 1 0 []), (100001, .bx (Tm.cw ⟨f, l⟩)), (3, .own (.lst ((Tm.mk f l :: (l.take (k + 1)).flatMap Tm.flat).map Tm.cv)) 300026), (300026, .tok 64 2), (4, .val (.i ((k + 1 : Nat) : Int)))]) ⟨rfl, rfl, ?_, rfl, rfl, trivial⟩) (wk_ren 300026 200026 rfl rfl rfl rfl)⟩
    rw [List.take_add_one, ht, List.flatMap_append, ← List.cons_append, List.map_append]
    simp only [Option.toList_some, List.flatMap_cons, List.flatMap_nil, List.append_nil]
    rfl
  · have hkl : k = l.length := by
      simp only [List.length_map, decide_eq_false_iff_not] at hc
      omega
    subst hkl
    rw [List.take_length]
    show AWp _ _ _ _ _ _ _
    refine aS (aR ?_)
    (refine nx (aM (gN rfl) rfl rfl rfl rfl rfl) rfl ?_)
    (refine nx (aA (gN rfl) rfl rfl rfl rfl rfl) rfl ?_)
    show AWp _ _ _ _ _ _ _
    exact aT (And.intro (.inr rfl) rfl)


def fineBd (b : Bd) : Bool := decide (0 ≤ b.v) && (decide (b.v ≤ 1000) && decide (0 ≤ smallT b.t 20 10))
def fine7B (l : List Bd) : Bool := l.all fineBd && decide (l.length ≤ 8)
def appR (l : List Bd) : Tm → Tm
  | ⟨f, ts⟩ => if f < 0 then imgB l (-1 - f) else ⟨f, ts.map (appR l)⟩
end Go.Proofs.YtglbohajmccehaaDoor
namespace Go.Proofs.YtglbohajmccehaaDoor
set_option linter.unusedVariables false
set_option linter.unusedSimpArgs false
def ixOf : List Int → Int → Nat
  | [], _ => 0
  | x :: l, v => if x = v then 0 else ixOf l v + 1
def zipB (a b : List Int) : List Bd := List.zipWith (fun v u => ⟨v, varT u⟩) a b
def nums (n : Nat) : List Int := (List.range n).map fun i : Nat => (i : Int)
def Tm.nv (t : Tm) : List Int := nub t.vs
def canT (t : Tm) : Tm := repT (imgB (zipB t.nv (nums t.nv.length))) t
def vntB (a b : Tm) : Bool := decide (a.nv.length = b.nv.length) && sameT (repT (imgB (zipB a.nv b.nv)) a) b
end Go.Proofs.YtglbohajmccehaaDoor
namespace Go.Proofs.YtglbohajmccehaaDoor
open Go.RowKit
set_option linter.unusedVariables false
structure Lt where
  neg : Bool
  a : Tm
  b : Tm
noncomputable abbrev Lt.cw (l : Lt) : CV := .row [.b l.neg, l.a.cw, l.b.cw]
noncomputable def Lt.cv (l : Lt) : CV := l.cw
theorem Lt.size_all (c : List Lt) : ∀ x ∈ c.map Lt.cv, x.size = 5 := by
  intro x hx
  obtain ⟨l, _, rfl⟩ := List.mem_map.1 hx
  rfl
theorem Lt.map_at {c : List Lt} {i : Nat} {l : Lt} (h : c[i]? = some l) : (c.map Lt.cv)[i]? = some l.cw := by rw [List.getElem?_map, h]; rfl
def Lt.strip (l : Lt) : Lt := ⟨l.neg, l.a.strip, l.b.strip⟩
def Lt.rng (l : Lt) : Prop := l.a.rng ∧ l.b.rng
def Lt.ok (l : Lt) : Prop := l.a.ok ∧ l.b.ok
end Go.Proofs.YtglbohajmccehaaDoor
namespace Go.Proofs.YtglbohajmccehaaDoor
open Go.RowKit
set_option linter.unusedVariables false
set_option linter.unusedSimpArgs false
structure Sg where
  nm : List By
  ar : List Nat
  pr : List Bool
abbrev Kd := By × Nat × Bool
structure Nm where
  sg : Sg
  sy : List (Kd × Nat)
  vr : List (By × Nat)
def lkA {α : Type} [DecidableEq α] (l : List (α × Nat)) (k : α) : Option Nat := (l.find? fun p => decide (p.1 = k)).map Prod.snd
def numF (st : Nm) (k : Kd) : Nat × Bool × Nm :=
  match lkA st.sy k with
  | some i => (i, true, st)
  | none => if 200 < st.sg.nm.length ∨ k.1 ∈ st.sg.nm then (0, false, st) else (st.sg.nm.length, true, ⟨⟨st.sg.nm ++ [k.1], st.sg.ar ++ [k.2.1], st.sg.pr ++ [k.2.2]⟩, st.sy ++ [(k, st.sg.nm.length)], st.vr⟩)
def varF (st : Nm) (v : By) : Nat × Nm :=
  match lkA st.vr v with
  | some i => (i, st)
  | none => (st.vr.length, ⟨st.sg, st.sy, st.vr ++ [(v, st.vr.length)]⟩)
def foldP (f : Nm → Ph → Option (Tm × Bool × Nm)) : Nm → List Ph → List Tm → Option (List Tm × Bool × Nm)
  | st, [], acc => some (acc, true, st)
  | st, p :: ps, acc => match f st p with
    | none => none
    | some r => if r.2.1 then foldP f r.2.2 ps (acc ++ [r.1]) else some ([], false, r.2.2)
def tz : Tm := ⟨0, []⟩
def symF (f : Nm → Ph → Option (Tm × Bool × Nm)) (st : Nm) (p : Ph) (pred : Bool) : Option (Tm × Bool × Nm) :=
  if (numF st ⟨p.name, p.parts.length, pred⟩).2.1 then
    match foldP f (numF st ⟨p.name, p.parts.length, pred⟩).2.2 p.parts [] with
    | none => none
    | some r => if r.2.1 then some (⟨((numF st ⟨p.name, p.parts.length, pred⟩).1 : Nat), r.1⟩, true, r.2.2) else some (tz, false, r.2.2)
  else some (tz, false, (numF st ⟨p.name, p.parts.length, pred⟩).2.2)
def tmF : Nat → Nm → Ph → Option (Tm × Bool × Nm)
  | 0, _, _ => none
  | n + 1, st, p => if isGrL p.name then some (⟨-1 - ((varF st p.name).1 : Nat), []⟩, true, (varF st p.name).2) else symF (tmF n) st p false
def litF (n : Nat) (st : Nm) (s : Se) : Option (Lt × Bool × Nm) :=
  if s.atom then (match symF (tmF n) st s.a true with
    | none => none
    | some r => some (⟨s.neg, r.1, tz⟩, r.2.1, r.2.2))
  else match tmF n st s.a with
    | none => none
    | some r => if r.2.1 then (match tmF n r.2.2 s.b with
        | none => none
        | some q => some (⟨s.neg, r.1, q.1⟩, q.2.1, q.2.2))
      else some (⟨false, tz, tz⟩, false, r.2.2)
def litsF (n : Nat) : Nm → List Se → List Lt → Option (List Lt × Bool × Nm)
  | st, [], acc => some (acc, true, st)
  | st, s :: ss, acc => match litF n st s with
    | none => none
    | some r => if r.2.1 then litsF n r.2.2 ss (acc ++ [r.1]) else some ([], false, r.2.2)
def clsF (n : Nat) (st : Nm) (c : List Se) : Option (List Lt × Bool × Nm) := litsF n ⟨st.sg, st.sy, []⟩ c []
def wtL (c : List Lt) : Nat := (c.map fun l => l.a.size + l.b.size).sum
def mnF (n : Nat) : Nm → List (List Se) → List (List Lt) → Option (Nm × List (List Lt) × Bool)
  | st, [], acc => some (st, acc, true)
  | st, c :: cs, acc => match clsF n st c with
    | none => none
    | some r => if r.2.1 && decide (wtL r.1 ≤ 60) then mnF n r.2.2 cs (acc ++ [r.1]) else some (st, [], false)
def sg0 : Sg := ⟨[[36, 116, 114, 117, 101]], [0], [true]⟩
def nm0 : Nm := ⟨sg0, [], []⟩
def prF (n : Nat) (src : By) : Option (Sg × List (List Lt) × Int) :=
  if 32768 < src.length then some (⟨[], [], []⟩, [], 9) else
  match rdAll n src with
  | none => none
  | some r => if r.2 && decide (r.1.length ≤ 64) then (match mnF n nm0 r.1 [] with
      | none => none
      | some q => if q.2.2 then some (q.1.sg, q.2.1, 0) else some (⟨[], [], []⟩, [], 7))
    else some (⟨[], [], []⟩, [], 7)

noncomputable def syv (p : Kd × Nat) : CV := .row [.sc (kdV p.1.1 p.1.2.1 p.1.2.2), .i (p.2 : Int)]
noncomputable def vrv (p : By × Nat) : CV := .row [.sc (.string ⟨p.1.toArray⟩), .i (p.2 : Int)]
def bv (b : Bool) : CV := .b b
def iv (n : Nat) : CV := .i (n : Int)
noncomputable abbrev nmS (st : Nm) : AS := [(450001, .obj), (35500100, .sl 300001 0 st.sg.nm.length 1), (35500101, .sl 300002 0 st.sg.ar.length 1), (35500102, .sl 300003 0 st.sg.pr.length 1), (35500103, .mref 300004), (35500104, .mref 300005), (300001, .mrow 9 1 (st.sg.nm.map sv)), (300002, .mrow 3 1 (st.sg.ar.map iv)), (300003, .mrow 4 1 (st.sg.pr.map bv)), (300004, .mp (st.sy.map syv)), (300005, .mp (st.vr.map vrv))]
structure Nm.ok (st : Nm) : Prop where
  la : st.sg.ar.length = st.sg.nm.length
  lp : st.sg.pr.length = st.sg.nm.length
  small : st.sg.nm.length ≤ 1000000
  syk : ∀ p ∈ st.sy, p.1.1.length ≤ 1000000 ∧ p.1.2.1 ≤ 1000000
  syn : (st.sy.map Prod.fst).Nodup
  sys : st.sy.length ≤ st.sg.nm.length ∧ ∀ p ∈ st.sy, p.2 ≤ 1000000
  vrk : ∀ p ∈ st.vr, p.1.length ≤ 1000000
  vrn : (st.vr.map Prod.fst).Nodup
  vrs : st.vr.length ≤ 1000000 ∧ ∀ p ∈ st.vr, p.2 ≤ 1000000
theorem kdV_inj {b c : By} {i j : Int} {p q : Bool} (h : kdV b i p = kdV c j q) : b = c ∧ i = j ∧ p = q := by
  simp only [kdV, Value.agg.injEq] at h
  have h := congrArg Array.toList h
  simp only [List.cons.injEq, Value.string.injEq, Value.int.injEq, Value.bool.injEq, true_and, and_true] at h
  obtain ⟨h1, h2, h3⟩ := h
  have h1 := congrArg (fun b : ByteArray => b.data.toList) h1
  exact ⟨by simpa using h1, h2, h3⟩
theorem sv_inj {b c : By} (h : Value.string ⟨b.toArray⟩ = .string ⟨c.toArray⟩) : b = c := by
  simp only [Value.string.injEq] at h
  have h1 := congrArg (fun b : ByteArray => b.data.toList) h
  simpa using h1
theorem lkA_some {α : Type} [DecidableEq α] {l : List (α × Nat)} {k : α} {i : Nat} (h : lkA l k = some i) : (k, i) ∈ l := by
  unfold lkA at h
  cases hf : l.find? (fun p => decide (p.1 = k)) with
  | none => rw [hf] at h; cases h
  | some p =>
    rw [hf] at h
    cases h
    have h1 := List.mem_of_find?_eq_some hf
    have h2 := List.find?_some hf
    have h2 : p.1 = k := by simpa using h2
    rw [← h2]
    exact h1
theorem lkA_none {α : Type} [DecidableEq α] {l : List (α × Nat)} {k : α} (h : lkA l k = none) : ∀ p ∈ l, p.1 ≠ k := by
  unfold lkA at h
  rw [Option.map_eq_none_iff, List.find?_eq_none] at h
  intro p hp e
  have := h p hp
  simp [e] at this
theorem nodup_snd {α : Type} {l : List (α × Nat)} (h : (l.map Prod.fst).Nodup) {k : α} {i j : Nat} (h1 : (k, i) ∈ l) (h2 : (k, j) ∈ l) : i = j := by
  induction l with
  | nil => cases h1
  | cons p l ih =>
    rw [List.map_cons, List.nodup_cons] at h
    rcases List.mem_cons.1 h1 with e1 | e1 <;> rcases List.mem_cons.1 h2 with e2 | e2
    · rw [← e1] at e2; cases e2; rfl
    · exact absurd (List.mem_map.2 ⟨_, e2, by rw [← e1]⟩) h.1
    · exact absurd (List.mem_map.2 ⟨_, e1, by rw [← e2]⟩) h.1
    · exact ih h.2 e1 e2
theorem sy_keys {st : Nm} (h : st.ok) : KeysK Tryd.prog 125 (st.sy.map syv) := fun r hr => by
  obtain ⟨p, hp, rfl⟩ := List.mem_map.1 hr
  have := h.syk p hp
  exact ⟨_, _, rfl, good_kind _ _ _ (by omega) (by omega)⟩
theorem vr_keysP {st : Nm} (h : st.ok) : KeysK Tryd.prog 9 (st.vr.map vrv) := fun r hr => by
  obtain ⟨p, hp, rfl⟩ := List.mem_map.1 hr
  have := h.vrk p hp
  exact ⟨_, _, rfl, good_str _ (by omega)⟩
theorem sy_no {st : Nm} {k : Kd} (h : lkA st.sy k = none) : ∀ c', CV.row [.sc (kdV k.1 k.2.1 k.2.2), c'] ∉ st.sy.map syv := fun c' hm => by
  obtain ⟨p, hp, e⟩ := List.mem_map.1 hm
  unfold syv at e
  injection e with _ _ e
  injection e with e _
  injection e with _ e _
  obtain ⟨e1, e2, e3⟩ := kdV_inj e
  refine lkA_none h p hp ?_
  obtain ⟨⟨a, b, c⟩, i⟩ := p
  obtain ⟨x, y, z⟩ := k
  simp only at e1 e2 e3
  rw [e1, e3, show b = y by omega]
theorem sy_yes {st : Nm} (ho : st.ok) {k : Kd} {i : Nat} (h : lkA st.sy k = some i) : (∃ r ∈ st.sy.map syv, r = CV.row [.sc (kdV k.1 k.2.1 k.2.2), .i (i : Int)]) ∧ ∀ c', CV.row [.sc (kdV k.1 k.2.1 k.2.2), c'] ∈ st.sy.map syv → c' = .i (i : Int) := by
  have hm := lkA_some h
  refine ⟨⟨_, List.mem_map_of_mem hm, rfl⟩, fun c' hc => ?_⟩
  obtain ⟨p, hp, e⟩ := List.mem_map.1 hc
  unfold syv at e
  injection e with _ _ e
  injection e with e e5
  injection e5 with e5 _
  injection e with _ e _
  obtain ⟨e1, e2, e3⟩ := kdV_inj e
  obtain ⟨⟨a, b, c⟩, j⟩ := p
  obtain ⟨x, y, z⟩ := k
  simp only at e1 e2 e3 e5
  have : (⟨a, b, c⟩ : Kd) = ⟨x, y, z⟩ := by rw [e1, e3, show b = y by omega]
  rw [this] at hp
  rw [← e5, nodup_snd ho.syn hm hp]
theorem vr_no {st : Nm} {k : By} (h : lkA st.vr k = none) : ∀ c', CV.row [.sc (.string ⟨k.toArray⟩), c'] ∉ st.vr.map vrv := fun c' hm => by
  obtain ⟨p, hp, e⟩ := List.mem_map.1 hm
  unfold vrv at e
  injection e with _ _ e
  injection e with e _
  injection e with _ e _
  exact lkA_none h p hp (sv_inj e)
theorem vr_yes {st : Nm} (ho : st.ok) {k : By} {i : Nat} (h : lkA st.vr k = some i) : (∃ r ∈ st.vr.map vrv, r = CV.row [.sc (.string ⟨k.toArray⟩), .i (i : Int)]) ∧ ∀ c', CV.row [.sc (.string ⟨k.toArray⟩), c'] ∈ st.vr.map vrv → c' = .i (i : Int) := by
  have hm := lkA_some h
  refine ⟨⟨_, List.mem_map_of_mem hm, rfl⟩, fun c' hc => ?_⟩
  obtain ⟨p, hp, e⟩ := List.mem_map.1 hc
  unfold vrv at e
  injection e with _ _ e
  injection e with e e5
  injection e5 with e5 _
  injection e with _ e _
  obtain ⟨a, j⟩ := p
  have e1 := sv_inj e
  simp only at e1 e5
  rw [e1] at hp
  rw [← e5, nodup_snd ho.vrn hm hp]
theorem numF_ok {st : Nm} (h : st.ok) {k : Kd} (hk : k.1.length ≤ 1000000 ∧ k.2.1 ≤ 1000000) : (numF st k).2.2.ok ∧ (numF st k).1 ≤ 1000000 := by
  unfold numF
  split
  · rename_i i hi
    exact ⟨h, h.sys.2 _ (lkA_some hi)⟩
  · rename_i hn
    split
    · exact ⟨h, Nat.zero_le _⟩
    · rename_i hb
      have hb : ¬ 200 < st.sg.nm.length := fun e => hb (.inl e)
      refine ⟨⟨?_, ?_, ?_, ?_, ?_, ?_, h.vrk, h.vrn, h.vrs⟩, by show st.sg.nm.length ≤ _; omega⟩
      · simp [h.la]
      · simp [h.lp]
      · simp; omega
      · intro p hp
        rcases List.mem_append.1 hp with hp | hp
        · exact h.syk p hp
        · rw [List.mem_singleton.1 hp]; exact hk
      · rw [List.map_append, List.nodup_append]
        refine ⟨h.syn, by simp, fun a ha b hb => ?_⟩
        simp at hb
        subst hb
        obtain ⟨p, hp, rfl⟩ := List.mem_map.1 ha
        exact lkA_none hn p hp
      · refine ⟨by simp; exact h.sys.1, fun p hp => ?_⟩
        rcases List.mem_append.1 hp with hp | hp
        · exact h.sys.2 p hp
        · rw [List.mem_singleton.1 hp]; show st.sg.nm.length ≤ _; omega
theorem numF_vr (st : Nm) (k : Kd) : (numF st k).2.2.vr = st.vr := by
  unfold numF
  split
  · rfl
  · split <;> rfl
theorem varF_ok {st : Nm} (h : st.ok) {v : By} (hv : v.length ≤ 1000000) (hl : st.vr.length < 1000000) : (varF st v).2.ok ∧ (varF st v).1 ≤ 1000000 ∧ (varF st v).2.vr.length ≤ st.vr.length + 1 := by
  unfold varF
  split
  · rename_i i hi
    exact ⟨h, h.vrs.2 _ (lkA_some hi), Nat.le_succ _⟩
  · rename_i hn
    refine ⟨⟨h.la, h.lp, h.small, h.syk, h.syn, h.sys, ?_, ?_, ?_⟩, by show st.vr.length ≤ _; omega, by simp⟩
    · intro p hp
      rcases List.mem_append.1 hp with hp | hp
      · exact h.vrk p hp
      · rw [List.mem_singleton.1 hp]; exact hv
    · rw [List.map_append, List.nodup_append]
      refine ⟨h.vrn, by simp, fun a ha b hb => ?_⟩
      simp at hb
      subst hb
      obtain ⟨p, hp, rfl⟩ := List.mem_map.1 ha
      exact lkA_none hn p hp
    · refine ⟨by simp; omega, fun p hp => ?_⟩
      rcases List.mem_append.1 hp with hp | hp
      · exact h.vrs.2 p hp
      · rw [List.mem_singleton.1 hp]; show st.vr.length ≤ _; omega
theorem svs_size (l : List By) : ∀ c ∈ l.map sv, c.size = 1 := by
  intro c hc
  obtain ⟨t, _, rfl⟩ := List.mem_map.1 hc
  rfl
theorem ivs_size (l : List Nat) : ∀ c ∈ l.map iv, c.size = 1 := by
  intro c hc
  obtain ⟨t, _, rfl⟩ := List.mem_map.1 hc
  rfl
theorem bvs_size (l : List Bool) : ∀ c ∈ l.map bv, c.size = 1 := by
  intro c hc
  obtain ⟨t, _, rfl⟩ := List.mem_map.1 hc
  rfl
theorem sv_at {l : List By} {i : Nat} {t : By} (h : l[i]? = some t) : (l.map sv)[i]? = some (sv t) := by rw [List.getElem?_map, h]; rfl
section
variable {P : Program} {w0 : World} {U0 : UX} {nt : Nat} {ops : Array Oper} {o : Oper} {S : Nat → Option AV} {gs : List Nat} {d : Nat} {s : AS} {a : Act} {w : World} {D : Nat → Nat → Prop} {hv : Nat → Value}
def noL (ds : List Nat) : AS := ds.map fun d => (d, AV.no)
end
end Go.Proofs.YtglbohajmccehaaDoor
namespace Go.Proofs.YtglbohajmccehaaDoor
open Go.RowKit Go.MapKept
set_option linter.unusedVariables false
set_option linter.unusedSimpArgs false
section
variable {P : Program} {w0 : World} {U0 : UX} {nt : Nat} {ops : Array Oper} {o : Oper} {S : Nat → Option AV} {gs : List Nat} {d : Nat} {s : AS} {a : Act} {w : World} {D : Nat → Nat → Prop} {hv : Nat → Value}

theorem live_two2 {x y : AV} {k m n : Nat} {e : Nat × Nat} (hk : k < 200000) (hm : m < 200000 ∨ 400000 ≤ m) : Live ((k, x) :: (m, y) :: s) n e ↔ Live s n e := by
  unfold Live
  constructor
  · rintro ⟨h1, h2⟩
    rw [lN (by omega), lN (by omega)] at h1
    exact ⟨h1, h2⟩
  · rintro ⟨h1, h2⟩
    exact ⟨by rw [lN (by omega), lN (by omega)]; exact h1, h2⟩
theorem hk_ne_boxN {lv : Nat → Prop} {a : AV} {d : Nat} (hd : BN d) (hlv : ∀ n, lv n → n = 1 ∨ RN n) (hr : a.n ≠ d) (h : Rn lv a) : hk a ≠ 100000 + d := by
  unfold BN at hd
  rcases h with ⟨h1, h2, h3⟩ | ⟨h1, h2⟩ | ⟨h1, h2⟩
  · rw [hk_eq.2 (by omega)]
    rcases hlv _ h2 with h4 | h4
    · exact absurd h4 h3
    · unfold RN at h4; omega
  · rw [hk_eq.1 h1]; omega
  · rw [hk_eq.2 (by omega)]; unfold RN at h2; omega
theorem SimG.newboxN (h : SimG w0 U0 nt s a w D hv) {nn : Nat} (hbn : BN nn) (hnf : ∀ v, U0.f (100000 + nn) = some v → False) (hr : NoRef s nn) (hd : d < nt) (h5 : d < 100000) {av : AV} (hav : av.t = 5 ∨ av = .obj) {xs : List Value} (ty : TypeId) (hrep : av.t = 5 → Rep (Us w0 U0 D) w av.c xs) (htk : av.t = 5 → Tk hv (LiveN s) av xs) :
    SimG w0 U0 nt ((d, .bp nn 0 []) :: (100000 + nn, av) :: s) (a.put (some d) (.pointer (some ⟨w.heap.size, 0, none⟩))) (w.alloc (.cells xs.toArray ty)) D (fun k => if k = 100000 + nn then .pointer (some ⟨w.heap.size, 0, none⟩) else hv k) := by
  have hbn1 := hbn
  unfold BN at hbn1
  have hb' : Below w.heap.size w (w.alloc (.cells xs.toArray ty)) := (Below.refl _ _).alloc (Nat.le_refl _) _
  have hG := h.grow' hb'
  obtain ⟨s', hs'⟩ : ∃ s', s' = (d, AV.bp nn 0 []) :: (100000 + nn, av) :: s := ⟨_, rfl⟩
  obtain ⟨hv', hhv⟩ : ∃ hv' : Nat → Value, hv' = fun k => if k = 100000 + nn then .pointer (some ⟨w.heap.size, 0, none⟩) else hv k := ⟨_, rfl⟩
  rw [← hs', ← hhv]
  have hl : ∀ n e, Live s' n e ↔ Live s n e := fun n e => by rw [hs']; exact live_two2 (by omega) (by unfold BN at hbn; omega)
  have hl2 : LiveN s' = LiveN s := by funext n; simp only [LiveN, hl]
  have hlk : ∀ k, k ≠ d → k ≠ 100000 + nn → look s' k = look s k := fun k h1 h2 => by rw [hs', lN (Ne.symm h1), lN (Ne.symm h2)]
  have hlb : look s' (100000 + nn) = some av := by rw [hs', lN (by omega), lS]
  have hvn : ∀ k, k ≠ 100000 + nn → hv' k = hv k := fun k hk => by rw [hhv]; simp only [if_neg hk]
  have hvd : hv' (100000 + nn) = .pointer (some ⟨w.heap.size, 0, none⟩) := by rw [hhv]; simp
  have hid : ∀ b o v, Us w0 U0 D b o → (w.alloc (.cells xs.toArray ty)).cell? ⟨b, o, none⟩ = some v → Us w0 U0 D b o ∧ (w.alloc (.cells xs.toArray ty)).cell? ⟨b, o, none⟩ = some v := fun _ _ _ h1 h2 => ⟨h1, h2⟩
  have hmv : ∀ {k av' v}, look s k = some av' → AVRep (Us w0 U0 D) (w.alloc (.cells xs.toArray ty)) hv (LiveN s) av' v → AVRep (Us w0 U0 D) (w.alloc (.cells xs.toArray ty)) hv' (LiveN s) av' v := fun {k av' v} h1 h2 =>
    h2.move hid (fun _ h => h) fun h3 => hvn _ (hk_ne_boxN hbn (fun n => liveN_rn) (hr k av' h1).1 h3)
  refine ⟨hG.below, h.dfr, by simp [Act.put, h.size], fun d' av' h1 h2 => ?_, fun n o av' h1 h2 h3 h10 => ?_, fun n o o' av1 av2 h1 h2 h3 h4 => ?_, fun k av' h1 h2 => ?_, fun k av' g h1 h2 h3 h4 => ?_, fun k k' av1 av2 g h1 h2 h3 h4 h6 h7 hne => ?_, fun n g h1 => ?_, hG.dlt⟩
  · rw [hl2]
    by_cases e : d = d'
    · subst e
      rw [hs', lS] at h1
      cases h1
      refine ⟨.pointer (some ⟨w.heap.size, 0, none⟩), by simp [Act.put, h.size, hd], ?_⟩
      unfold AVRep
      simp only [if_true]
      exact ⟨hbn, by rw [hvd]; rfl⟩
    · rw [hlk d' (Ne.symm e) (by omega)] at h1
      obtain ⟨v', h3, h4⟩ := hG.slot d' av' h1 h2
      exact ⟨v', by simp [Act.put, e, h3], hmv h1 h4⟩
  · rw [hlk _ (by unfold fKey; omega) (by unfold fKey; omega)] at h1
    have hn := (hr _ _ h1).2.1
    rw [fnm_key h2] at hn
    rw [hlk _ (by omega) (by omega)] at h3
    rw [hl2]
    obtain ⟨v, h4, h6, h7⟩ := hG.fld n o av' h1 h2 h3 h10
    refine ⟨v, hmv h1 h4, h6, ?_⟩
    rw [hvn _ (by omega)]
    exact h7
  · rw [hlk _ (by unfold fKey; omega) (by unfold fKey; omega)] at h1 h2
    exact h.fdis n o o' av1 av2 h1 h2 h3 h4
  · rw [hl2]
    by_cases e : k = 100000 + nn
    · subst e
      rw [hlb] at h1
      cases h1
      rw [hvd]
      unfold OC
      rcases hav with hav | rfl
      · rw [if_pos hav]
        refine ⟨w.heap.size, xs, ty, rfl, alloc_new _ _, (hrep hav).keep (us_keep h.dlt hb' fun _ _ h => h), fun hl => ?_⟩
        obtain ⟨m, c, g1, g2⟩ := htk hav hl
        refine ⟨m, c, g1, ?_⟩
        rw [g2]
        unfold tokv
        rcases liveN_rn hl with h6 | h6
        · rw [if_pos h6, if_pos h6]
        · unfold RN at h6
          rw [hvn _ (by omega)]
      · simp only [if_true]
        exact ⟨w.heap.size, xs.toArray, ty, rfl, alloc_new _ _⟩
    · have h2' := h2
      unfold oKey at h2'
      rw [hlk k (by omega) e] at h1
      rw [hvn k e]
      refine (hG.obj k av' h1 h2).move hid (fun _ hl => ⟨hl, ?_⟩) (fun _ _ => rfl)
      unfold tokv
      rcases liveN_rn hl with h6 | h6
      · rw [if_pos h6, if_pos h6]
      · unfold RN at h6
        rw [hvn _ (by omega)]
  · by_cases e : k = 100000 + nn
    · subst e
      rw [hvd] at h4
      have h4 : some w.heap.size = some g := h4
      cases h4
      refine ⟨.inl h.below.size, by simp, fun o _ hd => ?_⟩
      have := h.dlt _ _ hd
      omega
    · have h2' := h2
      unfold oKey at h2'
      rw [hlk k (by omega) e] at h1
      rw [hvn k e] at h4 ⊢
      exact hG.blk k av' g h1 h2 h3 h4
  · have h3' := h3
    have h4' := h4
    unfold oKey at h3' h4'
    by_cases e1 : k = 100000 + nn
    · have e2 : k' ≠ 100000 + nn := fun e => hne (e1.trans e.symm)
      rw [hlk k' (by omega) e2] at h2
      rw [e1, hvd, hvn k' e2]
      intro h8 h9
      have := (h.blk k' av2 g h2 h4 h7 h9).2.1
      have h8 : some w.heap.size = some g := h8
      cases h8
      omega
    · rw [hlk k (by omega) e1] at h1
      by_cases e2 : k' = 100000 + nn
      · rw [e2, hvd, hvn k e1]
        intro h8 h9
        have := (h.blk k av1 g h1 h3 h6 h8).2.1
        have h9 : some w.heap.size = some g := h9
        cases h9
        omega
      · rw [hlk k' (by omega) e2] at h2
        rw [hvn k e1, hvn k' e2]
        exact h.disj k k' av1 av2 g h1 h2 h3 h4 h6 h7 hne
  · have := U0.hf n g h1
    rw [hvn _ (fun e => hnf g (by rw [← e]; exact h1))]
    exact h.fix n g h1

end
def collPostL (L D : Nat) (Kp : World → World → Prop) (I : World → Prop) (W : World) : Exit → Act → World → Prop
  | .normal, _, W' => W'.heap[L]? = W.heap[L]? ∧ W'.heap[D]? = W.heap[D]? ∧ Kp W W' ∧ I W'
  | _, _, _ => False

section
variable {α : Type} {P : Program}
end

section
variable {P : Program} {w0 : World} {U0 : UX} {nt : Nat} {ops : Array Oper} {o : Oper} {S : Nat → Option AV} {gs : List Nat} {d : Nat} {s : AS} {a : Act} {w : World} {D : Nat → Nat → Prop} {hv : Nat → Value}

abbrev AV.ob (g o : Nat) : AV := ⟨20, .sc (.pointer (some ⟨g, 0, none⟩)), 0, o, []⟩
end
def KpX (n0 : Nat) (X : Nat → Prop) (V V' : World) : Prop := ∀ b, b < n0 → ¬ X b → V'.heap[b]? = V.heap[b]?
def Hands {α : Type} (P : Program) (gf : Nat) (caps : List CV) (encC : α → List CV) (xs : List α) : Prop :=
  ∀ (w : World) (lb : List Value) (R : Nat → Nat → Prop), VReps R w caps lb → Gives P gf lb.toArray (fun x => ((encC x).map CV.v).toArray) (fun pre x _ => xs[pre.length]? = some x) (KpX w.heap.size fun b => ¬ ∃ o, R b o) (fun ys => ys = xs) w

def asgL : List Oper → Option (List (Nat × Nat))
  | [] => some []
  | o :: os => match o.dst, o.op, o.guard, asgL os with
    | some d, .assign (.tmp t), none, some r => some ((d, t) :: r)
    | _, _, _, _ => none
def asgT : List (Nat × Nat) → Array Value → Array Value
  | [], tm => tm
  | (d, t) :: r, tm => asgT r (tm.setIfInBounds d (tm.getD t undef))
def asgS : List (Nat × Nat) → AS → AS
  | [], s => s
  | (d, t) :: r, s => asgS r ((d, match look s t with | some av => av | none => .no) :: s)
def parT : List Tmp → List Value → Array Value → Array Value
  | p :: ps, v :: vs, tm => parT ps vs (tm.setIfInBounds p v)
  | _, _, tm => tm
def parS : List Tmp → List CV → AS → AS
  | p :: ps, c :: cs, s => parS ps cs ((p, .val c) :: s)
  | _, _, s => s
def SlOk (R : AV → Value → Prop) (s : AS) (tm : Array Value) : Prop := ∀ d av, look s d = some av → ∃ v, tm[d]? = some v ∧ R av v
section
variable {P : Program} {w0 : World} {U0 : UX} {nt : Nat} {s : AS}
def AWpM (P : Program) (w0 : World) (U0 : UX) (nt : Nat) (c : Code) (Q : Exit → AS → Nat → Prop) (s : AS) : Prop :=
  ∀ a w, Sim w0 U0 nt s a w → c.wpIn Fence.wide 1 P (fun e a' w' => ∃ s' a'' g, Q e s' g ∧ Sim w0 U0 nt s' a'' w' ∧ a' = wdA a'' [⟨.collected g, #[]⟩] ∧ look s' 299999 = some (.ob g 0)) a w
end
section
variable {P : Program} {w0 : World} {U0 : UX} {nt : Nat} {ops : Array Oper} {o : Oper} {S : Nat → Option AV} {gs : List Nat} {d : Nat} {s : AS} {a : Act} {w : World} {D : Nat → Nat → Prop} {hv : Nat → Value}
end
end Go.Proofs.YtglbohajmccehaaDoor
-- @STR@
namespace Go.Proofs.YtglbohajmccehaaDoor
open Go.RowKit
set_option linter.unusedVariables false
set_option linter.unusedSimpArgs false
set_option maxRecDepth 100000

abbrev u8 (b : UInt8) : CV := .sc (.int .u8 (b.toNat : Int))
theorem hasP_abs (W : World) (s p : By) : AFun Tryd.prog W 45 [sv s, sv p] (.val (.b (Lib.hasPrefix s p))) := by
  refine ⟨ent_of Tryd.func45 rfl rfl, .inl rfl, rfl, ?_⟩
  rintro U w vs _ ⟨u1, us1, rfl, g1, u2, us2, rfl, g2, g3⟩
  have g3 : us2 = [] := g3
  subst g3
  obtain ⟨rfl, _⟩ := vrep_sc.1 g1
  obtain ⟨rfl, _⟩ := vrep_sc.1 g2
  refine (Tryd.strings_HasPrefix ⟨s.toArray⟩ ⟨p.toArray⟩ w).mono ?_
  rintro e w' ⟨rfl, rfl⟩
  exact ⟨_, rfl, vrep_sc.2 ⟨rfl, rfl⟩, Below.refl _ _⟩
theorem trim_abs (W : World) (s : By) : AFun Tryd.prog W 44 [sv s, sv [32, 9, 10, 13]] (.val (sv (trm s))) := by
  refine ⟨ent_of Tryd.func44 rfl rfl, .inl rfl, rfl, ?_⟩
  rintro U w vs _ ⟨u1, us1, rfl, g1, u2, us2, rfl, g2, g3⟩
  have g3 : us2 = [] := g3
  subst g3
  obtain ⟨rfl, _⟩ := vrep_sc.1 g1
  obtain ⟨rfl, _⟩ := vrep_sc.1 g2
  refine (Tryd.strings_TrimLeft ⟨s.toArray⟩ ⟨#[32, 9, 10, 13]⟩ w (by decide) (ascii_of_all (by decide))).mono ?_
  rintro e w' ⟨rfl, hb⟩
  exact ⟨_, rfl, vrep_sc.2 ⟨rfl, rfl⟩, hb⟩
theorem idx1_abs (W : World) (s : By) (c : UInt8) : AFun Tryd.prog W 70 [sv s, sv [c]] (.val (.i (Lib.indexByte s c))) := by
  refine ⟨ent_of Tryd.func70 rfl rfl, .inl rfl, rfl, ?_⟩
  rintro U w vs _ ⟨u1, us1, rfl, g1, u2, us2, rfl, g2, g3⟩
  have g3 : us2 = [] := g3
  subst g3
  obtain ⟨rfl, _⟩ := vrep_sc.1 g1
  obtain ⟨rfl, _⟩ := vrep_sc.1 g2
  refine (Tryd.stringslite_Index_one ⟨s.toArray⟩ c w).mono ?_
  rintro e w' ⟨rfl, rfl⟩
  exact ⟨_, rfl, vrep_sc.2 ⟨rfl, rfl⟩, Below.refl _ _⟩
theorem clone0_abs (W : World) (s : By) (hs : s.length ≤ 281474976710656) : AFun Tryd.prog W 72 [sv s] (.val (sv s)) := by
  refine ⟨ent_of Tryd.func72 rfl rfl, .inl rfl, rfl, ?_⟩
  rintro U w vs _ ⟨u1, us1, rfl, g1, g3⟩
  have g3 : us1 = [] := g3
  subst g3
  obtain ⟨rfl, _⟩ := vrep_sc.1 g1
  refine (Tryd.stringslite_Clone ⟨s.toArray⟩ w (by rw [ba_size]; exact hs)).mono ?_
  rintro e w' ⟨rfl, hb⟩
  exact ⟨_, rfl, vrep_sc.2 ⟨rfl, rfl⟩, hb⟩
-- 
theorem sClone_abs (W : World) (s : By) (hs : s.length ≤ 281474976710656) : AFun Tryd.prog W 65 [sv s] (.val (sv s)) := by
  refine afun_of (rs := [sv s]) Tryd.func65 Tryd.ntmps65 rfl rfl rfl rfl ?_
  intro w U hW
  refine aS (aR ?_)
  (refine nx (aA (gN rfl) rfl rfl rfl rfl rfl) rfl ?_)
  show AWp _ _ _ _ _ _ _
  refine aS (aR ?_)
  (refine nx (aM (gN rfl) rfl rfl rfl rfl rfl) rfl ?_)
  (refine nx (a_call (gN rfl) rfl rfl rfl rfl rfl (clone0_abs w s hs)) rfl ?_)
  (refine nx (aA (gN rfl) rfl rfl rfl rfl rfl) rfl ?_)
  show AWp _ _ _ _ _ _ _
  exact aT (And.intro (.inr rfl) rfl)
theorem behNl_idx : ∀ (s : By), (Lib.indexByte s 10 = -1 ∧ behNl s = []) ∨ ∃ k : Nat, Lib.indexByte s 10 = k ∧ k < s.length ∧ behNl s = s.drop (k + 1)
  | [] => .inl ⟨rfl, rfl⟩
  | b :: l => by
    unfold Lib.indexByte behNl
    by_cases h : b = 10
    · right
      exact ⟨0, by simp [h], by simp, by simp [h]⟩
    · have hb : (b == 10) = false := by simpa using h
      rw [hb, if_neg h]
      rcases behNl_idx l with ⟨e1, e2⟩ | ⟨k, e1, e2, e3⟩
      · left
        rw [e1]
        exact ⟨rfl, e2⟩
      · right
        refine ⟨k + 1, ?_, by rw [List.length_cons]; omega, by rw [e3]; rfl⟩
        rw [e1]
        have : ((k : Int) == -1) = false := by rw [beq_eq_false_iff_ne]; omega
        simp [this]
-- 
theorem cut0_abs (W : World) (s : By) (hs : s.length ≤ 1000000000) : ∃ p q, AFun Tryd.prog W 61 [sv s, sv [10]] (.tup [sv p, sv (behNl s), .b q]) := by
  have hi := idx1_abs W s 10
  rcases behNl_idx s with ⟨e1, e2⟩ | ⟨k, e1, e2, e3⟩
  · rw [e1] at hi
    refine ⟨s, false, ?_⟩
    rw [e2]
    refine afun_of (rs := [sv s, sv [], .b false]) Tryd.func61 Tryd.ntmps61 rfl rfl rfl rfl ?_
    intro w U hW
    refine aS (aR ?_)
    (refine nx (aA (gN rfl) rfl rfl rfl rfl rfl) rfl ?_)
    (refine nx (aA (gN rfl) rfl rfl rfl rfl rfl) rfl ?_)
    (refine nx (aA (gN rfl) rfl rfl rfl rfl rfl) rfl ?_)
    show AWp _ _ _ _ _ _ _
    refine aS (aS (aR ?_))
    (refine nx (aM (gN rfl) rfl rfl rfl rfl rfl) rfl ?_)
    (refine nx (aM (gN rfl) rfl rfl rfl rfl rfl) rfl ?_)
    (refine nx (a_call (gN rfl) rfl rfl rfl rfl rfl (hi.up hW)) rfl ?_)
    (refine nx (aA (gN rfl) rfl rfl rfl rfl rfl) rfl ?_)
    show AWp _ _ _ _ _ _ _
    refine aS (aR ?_)
    (refine nx (aM (gN rfl) rfl rfl rfl rfl rfl) rfl ?_)
    (refine nx (a_geq (gN rfl) rfl rfl rfl rfl rfl rfl) rfl ?_)
    show AWp _ _ _ _ _ _ _
    refine aC rfl (fun h => by cases h) (fun h => aK ?_)
    show AWp _ _ _ _ _ _ _
    refine aS (aR ?_)
    (refine nx (aM (gN rfl) rfl rfl rfl rfl rfl) rfl ?_)
    (refine nx (aA (gN rfl) rfl rfl rfl rfl rfl) rfl ?_)
    (refine nx (aA (gN rfl) rfl rfl rfl rfl rfl) rfl ?_)
    (refine nx (aA (gN rfl) rfl rfl rfl rfl rfl) rfl ?_)
    show AWp _ _ _ _ _ _ _
    exact aT (And.intro (.inr rfl) rfl)
  · rw [e1] at hi
    refine ⟨s.take k, true, ?_⟩
    rw [e3]
    refine afun_of (rs := [sv (s.take k), sv (s.drop (k + 1)), .b true]) Tryd.func61 Tryd.ntmps61 rfl rfl rfl rfl ?_
    intro w U hW
    refine aS (aR ?_)
    (refine nx (aA (gN rfl) rfl rfl rfl rfl rfl) rfl ?_)
    (refine nx (aA (gN rfl) rfl rfl rfl rfl rfl) rfl ?_)
    (refine nx (aA (gN rfl) rfl rfl rfl rfl rfl) rfl ?_)
    show AWp _ _ _ _ _ _ _
    refine aS (aS (aR ?_))
    (refine nx (aM (gN rfl) rfl rfl rfl rfl rfl) rfl ?_)
    (refine nx (aM (gN rfl) rfl rfl rfl rfl rfl) rfl ?_)
    (refine nx (a_call (gN rfl) rfl rfl rfl rfl rfl (hi.up hW)) rfl ?_)
    (refine nx (aA (gN rfl) rfl rfl rfl rfl rfl) rfl ?_)
    show AWp _ _ _ _ _ _ _
    refine aS (aR ?_)
    (refine nx (aM (gN rfl) rfl rfl rfl rfl rfl) rfl ?_)
    (refine nx (a_geq (gN rfl) rfl rfl rfl rfl rfl rfl) rfl ?_)
    show AWp _ _ _ _ _ _ _
    have g : decide ((k : Int) ≥ 0) = true := by rw [decide_eq_true_eq]; omega
    refine aC rfl (fun h => ?_) (fun h => by rw [g] at h; cases h)
    refine aS (aD (by kernel_rfl) (by kernel_rfl) ?_)
    (refine nx (aM (gN rfl) rfl rfl rfl rfl rfl) rfl ?_)
    (refine nx (aM (gN rfl) rfl rfl rfl rfl rfl) rfl ?_)
    (refine nx (a_supto (k) (gN rfl) rfl rfl rfl rfl rfl rfl rfl (by first | rfl | omega | (simp only [List.length_set, List.length_map, List.length_append, List.length_cons, List.length_nil] <;> omega) | (simp <;> omega)) (by first | rfl | omega | (simp only [List.length_set, List.length_map, List.length_append, List.length_cons, List.length_nil] <;> omega) | (simp <;> omega))) rfl ?_)
    (refine nx (aM (gN rfl) rfl rfl rfl rfl rfl) rfl ?_)
    (refine nx (aM (gN rfl) rfl rfl rfl rfl rfl) rfl ?_)
    (refine nx (aM (gN rfl) rfl rfl rfl rfl rfl) rfl ?_)
    (refine nx (a_slen (gN rfl) rfl rfl rfl rfl rfl rfl rfl) rfl ?_)
    (refine nx (a_add (gN rfl) rfl rfl rfl rfl rfl rfl (by first | omega | (simp only [List.length_map, List.length_append, List.length_cons, List.length_nil] <;> omega) | (simp <;> omega))) rfl ?_)
    (refine nx (a_sfrom (k + 1) (gN rfl) rfl rfl rfl rfl rfl rfl rfl (by first | rfl | omega | (simp only [List.length_set, List.length_map, List.length_append, List.length_cons, List.length_nil] <;> omega) | (simp <;> omega)) (by first | rfl | omega | (simp only [List.length_set, List.length_map, List.length_append, List.length_cons, List.length_nil] <;> omega) | (simp <;> omega))) rfl ?_)
    (refine nx (aA (gN rfl) rfl rfl rfl rfl rfl) rfl ?_)
    (refine nx (aA (gN rfl) rfl rfl rfl rfl rfl) rfl ?_)
    (refine nx (aA (gN rfl) rfl rfl rfl rfl rfl) rfl ?_)
    refine ⟨by kernel_rfl, ?_⟩
    show AWp _ _ _ _ _ _ _
    exact aT (And.intro (.inr rfl) rfl)
-- 
theorem cut_abs (W : World) (s : By) (hs : s.length ≤ 1000000000) : ∃ p q, AFun Tryd.prog W 46 [sv s, sv [10]] (.tup [sv p, sv (behNl s), .b q]) := by
  obtain ⟨p, q, h⟩ := cut0_abs W s hs
  refine ⟨p, q, ?_⟩
  refine afun_of (rs := [sv p, sv (behNl s), .b q]) Tryd.func46 Tryd.ntmps46 rfl rfl rfl rfl ?_
  intro w U hW
  refine aS (aR ?_)
  (refine nx (aA (gN rfl) rfl rfl rfl rfl rfl) rfl ?_)
  (refine nx (aA (gN rfl) rfl rfl rfl rfl rfl) rfl ?_)
  (refine nx (aA (gN rfl) rfl rfl rfl rfl rfl) rfl ?_)
  show AWp _ _ _ _ _ _ _
  refine aS (aR ?_)
  (refine nx (aM (gN rfl) rfl rfl rfl rfl rfl) rfl ?_)
  (refine nx (aM (gN rfl) rfl rfl rfl rfl rfl) rfl ?_)
  (refine nx (a_call (gN rfl) rfl rfl rfl rfl rfl (h.up hW)) rfl ?_)
  (refine nx (aX (gN rfl) rfl rfl rfl rfl rfl rfl) rfl ?_)
  (refine nx (aX (gN rfl) rfl rfl rfl rfl rfl rfl) rfl ?_)
  (refine nx (aX (gN rfl) rfl rfl rfl rfl rfl rfl) rfl ?_)
  (refine nx (aA (gN rfl) rfl rfl rfl rfl rfl) rfl ?_)
  (refine nx (aA (gN rfl) rfl rfl rfl rfl rfl) rfl ?_)
  (refine nx (aA (gN rfl) rfl rfl rfl rfl rfl) rfl ?_)
  show AWp _ _ _ _ _ _ _
  exact aT (And.intro (.inr rfl) rfl)
-- 
theorem smB_abs (W : World) (b : UInt8) : AFun Tryd.prog W 51 [u8 b] (.val (.b (smB b))) := by
  have e : smB b = (decide ((97 : Int) ≤ (b.toNat : Int)) && decide ((b.toNat : Int) ≤ 122)) := by
    unfold smB
    congr 1 <;> (rw [decide_eq_decide]; omega)
  rw [e]
  refine afun_of (rs := [.b (decide ((97 : Int) ≤ (b.toNat : Int)) && decide ((b.toNat : Int) ≤ 122))]) Tryd.func51 Tryd.ntmps51 rfl rfl rfl rfl ?_
  intro w U hW
  refine aS (aR ?_)
  (refine nx (aA (gN rfl) rfl rfl rfl rfl rfl) rfl ?_)
  show AWp _ _ _ _ _ _ _
  cases h : decide ((97 : Int) ≤ (b.toNat : Int)) with
  | true =>
    refine aS (aR ?_)
    (refine nx (aM (gN rfl) rfl rfl rfl rfl rfl) rfl ?_)
    (refine nx (a_leq (gN rfl) rfl rfl rfl rfl rfl rfl) rfl ?_)
    (refine nx (aM (gN rfl) rfl rfl rfl rfl rfl) rfl ?_)
    (refine nx (aM (gd_on rfl rfl rfl rfl (by first | rfl | assumption | (simp; done))) rfl rfl rfl rfl rfl) rfl ?_)
    (refine nx (a_leq (gd_on rfl rfl rfl rfl (by first | rfl | assumption | (simp; done))) rfl rfl rfl rfl rfl rfl) rfl ?_)
    (refine ⟨_, _, _, aPt (gN rfl) rfl rfl rfl rfl rfl ?hb rfl, rfl, ?_⟩; case hb => (first | rfl | assumption | (simp; done)))
    (refine nx (aA (gN rfl) rfl rfl rfl rfl rfl) rfl ?_)
    show AWp _ _ _ _ _ _ _
    exact aT (And.intro (.inr rfl) rfl)
  | false =>
    refine aS (aR ?_)
    (refine nx (aM (gN rfl) rfl rfl rfl rfl rfl) rfl ?_)
    (refine nx (a_leq (gN rfl) rfl rfl rfl rfl rfl rfl) rfl ?_)
    (refine nx (aM (gN rfl) rfl rfl rfl rfl rfl) rfl ?_)
    (refine ⟨_, _, _, a_off (go_off rfl rfl rfl rfl (by first | rfl | assumption | (simp; done) | (simp [*]; done))) rfl rfl rfl, rfl, ?_⟩)
    (refine ⟨_, _, _, a_off (go_off rfl rfl rfl rfl (by first | rfl | assumption | (simp; done) | (simp [*]; done))) rfl rfl rfl, rfl, ?_⟩)
    (refine ⟨_, _, _, aPf (gN rfl) rfl rfl rfl rfl rfl ?hb rfl, rfl, ?_⟩; case hb => (first | rfl | assumption | (simp; done)))
    (refine nx (aA (gN rfl) rfl rfl rfl rfl rfl) rfl ?_)
    show AWp _ _ _ _ _ _ _
    exact aT (And.intro (.inr rfl) rfl)
-- 
theorem grB_abs (W : World) (b : UInt8) : AFun Tryd.prog W 62 [u8 b] (.val (.b (grB b))) := by
  have e : grB b = (decide ((65 : Int) ≤ (b.toNat : Int)) && decide ((b.toNat : Int) ≤ 90)) := by
    unfold grB
    congr 1 <;> (rw [decide_eq_decide]; omega)
  rw [e]
  refine afun_of (rs := [.b (decide ((65 : Int) ≤ (b.toNat : Int)) && decide ((b.toNat : Int) ≤ 90))]) Tryd.func62 Tryd.ntmps62 rfl rfl rfl rfl ?_
  intro w U hW
  refine aS (aR ?_)
  (refine nx (aA (gN rfl) rfl rfl rfl rfl rfl) rfl ?_)
  show AWp _ _ _ _ _ _ _
  cases h : decide ((65 : Int) ≤ (b.toNat : Int)) with
  | true =>
    refine aS (aR ?_)
    (refine nx (aM (gN rfl) rfl rfl rfl rfl rfl) rfl ?_)
    (refine nx (a_leq (gN rfl) rfl rfl rfl rfl rfl rfl) rfl ?_)
    (refine nx (aM (gN rfl) rfl rfl rfl rfl rfl) rfl ?_)
    (refine nx (aM (gd_on rfl rfl rfl rfl (by first | rfl | assumption | (simp; done))) rfl rfl rfl rfl rfl) rfl ?_)
    (refine nx (a_leq (gd_on rfl rfl rfl rfl (by first | rfl | assumption | (simp; done))) rfl rfl rfl rfl rfl rfl) rfl ?_)
    (refine ⟨_, _, _, aPt (gN rfl) rfl rfl rfl rfl rfl ?hb rfl, rfl, ?_⟩; case hb => (first | rfl | assumption | (simp; done)))
    (refine nx (aA (gN rfl) rfl rfl rfl rfl rfl) rfl ?_)
    show AWp _ _ _ _ _ _ _
    exact aT (And.intro (.inr rfl) rfl)
  | false =>
    refine aS (aR ?_)
    (refine nx (aM (gN rfl) rfl rfl rfl rfl rfl) rfl ?_)
    (refine nx (a_leq (gN rfl) rfl rfl rfl rfl rfl rfl) rfl ?_)
    (refine nx (aM (gN rfl) rfl rfl rfl rfl rfl) rfl ?_)
    (refine ⟨_, _, _, a_off (go_off rfl rfl rfl rfl (by first | rfl | assumption | (simp; done) | (simp [*]; done))) rfl rfl rfl, rfl, ?_⟩)
    (refine ⟨_, _, _, a_off (go_off rfl rfl rfl rfl (by first | rfl | assumption | (simp; done) | (simp [*]; done))) rfl rfl rfl, rfl, ?_⟩)
    (refine ⟨_, _, _, aPf (gN rfl) rfl rfl rfl rfl rfl ?hb rfl, rfl, ?_⟩; case hb => (first | rfl | assumption | (simp; done)))
    (refine nx (aA (gN rfl) rfl rfl rfl rfl rfl) rfl ?_)
    show AWp _ _ _ _ _ _ _
    exact aT (And.intro (.inr rfl) rfl)
-- 
theorem inB_abs (W : World) (b : UInt8) : AFun Tryd.prog W 63 [u8 b] (.val (.b (inB b))) := by
  have e : inB b = ((smB b || grB b) || ((decide ((48 : Int) ≤ (b.toNat : Int)) && decide ((b.toNat : Int) ≤ 57)) || decide ((b.toNat : Int) = 95))) := by
    unfold inB
    congr 2
    · congr 1 <;> (rw [decide_eq_decide]; omega)
    · rw [decide_eq_decide]; omega
  rw [e]
  refine afun_of (rs := [.b ((smB b || grB b) || ((decide ((48 : Int) ≤ (b.toNat : Int)) && decide ((b.toNat : Int) ≤ 57)) || decide ((b.toNat : Int) = 95)))]) Tryd.func63 Tryd.ntmps63 rfl rfl rfl rfl ?_
  intro w U hW
  have c1 := smB_abs w b
  have c2 := grB_abs w b
  refine aS (aR ?_)
  (refine nx (aA (gN rfl) rfl rfl rfl rfl rfl) rfl ?_)
  show AWp _ _ _ _ _ _ _
  cases h1 : smB b with
  | true =>
    rw [h1] at c1
    refine aS (aR ?_)
    (refine nx (aM (gN rfl) rfl rfl rfl rfl rfl) rfl ?_)
    (refine nx (a_call (gN rfl) rfl rfl rfl rfl rfl (c1)) rfl ?_)
    (refine nx (aM (gN rfl) rfl rfl rfl rfl rfl) rfl ?_)
    (refine ⟨_, _, _, a_off (go_off rfl rfl rfl rfl (by first | rfl | assumption | (simp; done) | (simp [*]; done))) rfl rfl rfl, rfl, ?_⟩)
    (refine ⟨_, _, _, a_off (go_off rfl rfl rfl rfl (by first | rfl | assumption | (simp; done) | (simp [*]; done))) rfl rfl rfl, rfl, ?_⟩)
    (refine ⟨_, _, _, aPt (gN rfl) rfl rfl rfl rfl rfl ?hb rfl, rfl, ?_⟩; case hb => (first | rfl | assumption | (simp; done)))
    (refine nx (aM (gN rfl) rfl rfl rfl rfl rfl) rfl ?_)
    (refine ⟨_, _, _, a_offt (go_off rfl rfl rfl rfl (by first | rfl | assumption | (simp; done) | (simp [*]; done))) rfl rfl rfl, rfl, ?_⟩)
    (refine ⟨_, _, _, a_offt (go_off rfl rfl rfl rfl (by first | rfl | assumption | (simp; done) | (simp [*]; done))) rfl rfl rfl, rfl, ?_⟩)
    (refine ⟨_, _, _, a_offt (go_off rfl rfl rfl rfl (by first | rfl | assumption | (simp; done) | (simp [*]; done))) rfl rfl rfl, rfl, ?_⟩)
    (refine ⟨_, _, _, a_offt (go_off_t rfl rfl rfl rfl) rfl rfl rfl, rfl, ?_⟩)
    (refine ⟨_, _, _, a_offt (go_off_t rfl rfl rfl rfl) rfl rfl rfl, rfl, ?_⟩)
    (refine ⟨_, _, _, a_offt (go_off rfl rfl rfl rfl (by first | rfl | assumption | (simp; done) | (simp [*]; done))) rfl rfl rfl, rfl, ?_⟩)
    (refine ⟨_, _, _, aPt (gN rfl) rfl rfl rfl rfl rfl ?hb rfl, rfl, ?_⟩; case hb => (first | rfl | assumption | (simp; done)))
    (refine nx (aM (gN rfl) rfl rfl rfl rfl rfl) rfl ?_)
    (refine ⟨_, _, _, a_off (go_off rfl rfl rfl rfl (by first | rfl | assumption | (simp; done) | (simp [*]; done))) rfl rfl rfl, rfl, ?_⟩)
    (refine ⟨_, _, _, a_off (go_off rfl rfl rfl rfl (by first | rfl | assumption | (simp; done) | (simp [*]; done))) rfl rfl rfl, rfl, ?_⟩)
    (refine ⟨_, _, _, aPt (gN rfl) rfl rfl rfl rfl rfl ?hb rfl, rfl, ?_⟩; case hb => (first | rfl | assumption | (simp; done)))
    (refine nx (aA (gN rfl) rfl rfl rfl rfl rfl) rfl ?_)
    show AWp _ _ _ _ _ _ _
    exact aT (And.intro (.inr rfl) rfl)
  | false =>
  rw [h1] at c1
  cases h2 : grB b with
  | true =>
    rw [h2] at c2
    refine aS (aR ?_)
    (refine nx (aM (gN rfl) rfl rfl rfl rfl rfl) rfl ?_)
    (refine nx (a_call (gN rfl) rfl rfl rfl rfl rfl (c1)) rfl ?_)
    (refine nx (aM (gN rfl) rfl rfl rfl rfl rfl) rfl ?_)
    (refine nx (aM (gd_on rfl rfl rfl rfl (by first | rfl | assumption | (simp; done))) rfl rfl rfl rfl rfl) rfl ?_)
    (refine nx (a_call (gd_on rfl rfl rfl rfl (by first | rfl | assumption | (simp; done))) rfl rfl rfl rfl rfl (c2)) rfl ?_)
    (refine ⟨_, _, _, aPf (gN rfl) rfl rfl rfl rfl rfl ?hb rfl, rfl, ?_⟩; case hb => (first | rfl | assumption | (simp; done)))
    (refine nx (aM (gN rfl) rfl rfl rfl rfl rfl) rfl ?_)
    (refine ⟨_, _, _, a_offt (go_off rfl rfl rfl rfl (by first | rfl | assumption | (simp; done) | (simp [*]; done))) rfl rfl rfl, rfl, ?_⟩)
    (refine ⟨_, _, _, a_offt (go_off rfl rfl rfl rfl (by first | rfl | assumption | (simp; done) | (simp [*]; done))) rfl rfl rfl, rfl, ?_⟩)
    (refine ⟨_, _, _, a_offt (go_off rfl rfl rfl rfl (by first | rfl | assumption | (simp; done) | (simp [*]; done))) rfl rfl rfl, rfl, ?_⟩)
    (refine ⟨_, _, _, a_offt (go_off_t rfl rfl rfl rfl) rfl rfl rfl, rfl, ?_⟩)
    (refine ⟨_, _, _, a_offt (go_off_t rfl rfl rfl rfl) rfl rfl rfl, rfl, ?_⟩)
    (refine ⟨_, _, _, a_offt (go_off rfl rfl rfl rfl (by first | rfl | assumption | (simp; done) | (simp [*]; done))) rfl rfl rfl, rfl, ?_⟩)
    (refine ⟨_, _, _, aPt (gN rfl) rfl rfl rfl rfl rfl ?hb rfl, rfl, ?_⟩; case hb => (first | rfl | assumption | (simp; done)))
    (refine nx (aM (gN rfl) rfl rfl rfl rfl rfl) rfl ?_)
    (refine ⟨_, _, _, a_off (go_off rfl rfl rfl rfl (by first | rfl | assumption | (simp; done) | (simp [*]; done))) rfl rfl rfl, rfl, ?_⟩)
    (refine ⟨_, _, _, a_off (go_off rfl rfl rfl rfl (by first | rfl | assumption | (simp; done) | (simp [*]; done))) rfl rfl rfl, rfl, ?_⟩)
    (refine ⟨_, _, _, aPt (gN rfl) rfl rfl rfl rfl rfl ?hb rfl, rfl, ?_⟩; case hb => (first | rfl | assumption | (simp; done)))
    (refine nx (aA (gN rfl) rfl rfl rfl rfl rfl) rfl ?_)
    show AWp _ _ _ _ _ _ _
    exact aT (And.intro (.inr rfl) rfl)
  | false =>
  rw [h2] at c2
  cases h3 : decide ((48 : Int) ≤ (b.toNat : Int)) with
  | false =>
    refine aS (aR ?_)
    (refine nx (aM (gN rfl) rfl rfl rfl rfl rfl) rfl ?_)
    (refine nx (a_call (gN rfl) rfl rfl rfl rfl rfl (c1)) rfl ?_)
    (refine nx (aM (gN rfl) rfl rfl rfl rfl rfl) rfl ?_)
    (refine nx (aM (gd_on rfl rfl rfl rfl (by first | rfl | assumption | (simp; done))) rfl rfl rfl rfl rfl) rfl ?_)
    (refine nx (a_call (gd_on rfl rfl rfl rfl (by first | rfl | assumption | (simp; done))) rfl rfl rfl rfl rfl (c2)) rfl ?_)
    (refine ⟨_, _, _, aPf (gN rfl) rfl rfl rfl rfl rfl ?hb rfl, rfl, ?_⟩; case hb => (first | rfl | assumption | (simp; done)))
    (refine nx (aM (gN rfl) rfl rfl rfl rfl rfl) rfl ?_)
    (refine nx (aM (gd_on rfl rfl rfl rfl (by first | rfl | assumption | (simp; done))) rfl rfl rfl rfl rfl) rfl ?_)
    (refine nx (a_leq (gd_on rfl rfl rfl rfl (by first | rfl | assumption | (simp; done))) rfl rfl rfl rfl rfl rfl) rfl ?_)
    (refine nx (aM (gd_on rfl rfl rfl rfl (by first | rfl | assumption | (simp; done))) rfl rfl rfl rfl rfl) rfl ?_)
    (refine ⟨_, _, _, a_off (go_off rfl rfl rfl rfl (by first | rfl | assumption | (simp; done) | (simp [*]; done))) rfl rfl rfl, rfl, ?_⟩)
    (refine ⟨_, _, _, a_off (go_off rfl rfl rfl rfl (by first | rfl | assumption | (simp; done) | (simp [*]; done))) rfl rfl rfl, rfl, ?_⟩)
    (refine ⟨_, _, _, aPf (gd_on rfl rfl rfl rfl (by first | rfl | assumption | (simp; done))) rfl rfl rfl rfl rfl ?hb rfl, rfl, ?_⟩; case hb => (first | rfl | assumption | (simp; done)))
    (refine ⟨_, _, _, aPf (gN rfl) rfl rfl rfl rfl rfl ?hb rfl, rfl, ?_⟩; case hb => (first | rfl | assumption | (simp; done)))
    (refine nx (aM (gN rfl) rfl rfl rfl rfl rfl) rfl ?_)
    (refine nx (aM (gd_on rfl rfl rfl rfl (by first | rfl | assumption | (simp; done))) rfl rfl rfl rfl rfl) rfl ?_)
    (refine nx (a_eql (gd_on rfl rfl rfl rfl (by first | rfl | assumption | (simp; done))) rfl rfl rfl rfl rfl rfl) rfl ?_)
    (refine ⟨_, _, _, aPf (gN rfl) rfl rfl rfl rfl rfl ?hb rfl, rfl, ?_⟩; case hb => (first | rfl | assumption | (simp; done)))
    (refine nx (aA (gN rfl) rfl rfl rfl rfl rfl) rfl ?_)
    show AWp _ _ _ _ _ _ _
    exact aT (And.intro (.inr rfl) rfl)
  | true =>
  cases h4 : decide ((b.toNat : Int) ≤ 57) with
  | true =>
    refine aS (aR ?_)
    (refine nx (aM (gN rfl) rfl rfl rfl rfl rfl) rfl ?_)
    (refine nx (a_call (gN rfl) rfl rfl rfl rfl rfl (c1)) rfl ?_)
    (refine nx (aM (gN rfl) rfl rfl rfl rfl rfl) rfl ?_)
    (refine nx (aM (gd_on rfl rfl rfl rfl (by first | rfl | assumption | (simp; done))) rfl rfl rfl rfl rfl) rfl ?_)
    (refine nx (a_call (gd_on rfl rfl rfl rfl (by first | rfl | assumption | (simp; done))) rfl rfl rfl rfl rfl (c2)) rfl ?_)
    (refine ⟨_, _, _, aPf (gN rfl) rfl rfl rfl rfl rfl ?hb rfl, rfl, ?_⟩; case hb => (first | rfl | assumption | (simp; done)))
    (refine nx (aM (gN rfl) rfl rfl rfl rfl rfl) rfl ?_)
    (refine nx (aM (gd_on rfl rfl rfl rfl (by first | rfl | assumption | (simp; done))) rfl rfl rfl rfl rfl) rfl ?_)
    (refine nx (a_leq (gd_on rfl rfl rfl rfl (by first | rfl | assumption | (simp; done))) rfl rfl rfl rfl rfl rfl) rfl ?_)
    (refine nx (aM (gd_on rfl rfl rfl rfl (by first | rfl | assumption | (simp; done))) rfl rfl rfl rfl rfl) rfl ?_)
    (refine nx (aM (gd_on rfl rfl rfl rfl (by first | rfl | assumption | (simp; done))) rfl rfl rfl rfl rfl) rfl ?_)
    (refine nx (a_leq (gd_on rfl rfl rfl rfl (by first | rfl | assumption | (simp; done))) rfl rfl rfl rfl rfl rfl) rfl ?_)
    (refine ⟨_, _, _, aPt (gd_on rfl rfl rfl rfl (by first | rfl | assumption | (simp; done))) rfl rfl rfl rfl rfl ?hb rfl, rfl, ?_⟩; case hb => (first | rfl | assumption | (simp; done)))
    (refine ⟨_, _, _, aPf (gN rfl) rfl rfl rfl rfl rfl ?hb rfl, rfl, ?_⟩; case hb => (first | rfl | assumption | (simp; done)))
    (refine nx (aM (gN rfl) rfl rfl rfl rfl rfl) rfl ?_)
    (refine ⟨_, _, _, a_off (go_off rfl rfl rfl rfl (by first | rfl | assumption | (simp; done) | (simp [*]; done))) rfl rfl rfl, rfl, ?_⟩)
    (refine ⟨_, _, _, a_off (go_off rfl rfl rfl rfl (by first | rfl | assumption | (simp; done) | (simp [*]; done))) rfl rfl rfl, rfl, ?_⟩)
    (refine ⟨_, _, _, aPt (gN rfl) rfl rfl rfl rfl rfl ?hb rfl, rfl, ?_⟩; case hb => (first | rfl | assumption | (simp; done)))
    (refine nx (aA (gN rfl) rfl rfl rfl rfl rfl) rfl ?_)
    show AWp _ _ _ _ _ _ _
    exact aT (And.intro (.inr rfl) rfl)
  | false =>
    refine aS (aR ?_)
    (refine nx (aM (gN rfl) rfl rfl rfl rfl rfl) rfl ?_)
    (refine nx (a_call (gN rfl) rfl rfl rfl rfl rfl (c1)) rfl ?_)
    (refine nx (aM (gN rfl) rfl rfl rfl rfl rfl) rfl ?_)
    (refine nx (aM (gd_on rfl rfl rfl rfl (by first | rfl | assumption | (simp; done))) rfl rfl rfl rfl rfl) rfl ?_)
    (refine nx (a_call (gd_on rfl rfl rfl rfl (by first | rfl | assumption | (simp; done))) rfl rfl rfl rfl rfl (c2)) rfl ?_)
    (refine ⟨_, _, _, aPf (gN rfl) rfl rfl rfl rfl rfl ?hb rfl, rfl, ?_⟩; case hb => (first | rfl | assumption | (simp; done)))
    (refine nx (aM (gN rfl) rfl rfl rfl rfl rfl) rfl ?_)
    (refine nx (aM (gd_on rfl rfl rfl rfl (by first | rfl | assumption | (simp; done))) rfl rfl rfl rfl rfl) rfl ?_)
    (refine nx (a_leq (gd_on rfl rfl rfl rfl (by first | rfl | assumption | (simp; done))) rfl rfl rfl rfl rfl rfl) rfl ?_)
    (refine nx (aM (gd_on rfl rfl rfl rfl (by first | rfl | assumption | (simp; done))) rfl rfl rfl rfl rfl) rfl ?_)
    (refine nx (aM (gd_on rfl rfl rfl rfl (by first | rfl | assumption | (simp; done))) rfl rfl rfl rfl rfl) rfl ?_)
    (refine nx (a_leq (gd_on rfl rfl rfl rfl (by first | rfl | assumption | (simp; done))) rfl rfl rfl rfl rfl rfl) rfl ?_)
    (refine ⟨_, _, _, aPt (gd_on rfl rfl rfl rfl (by first | rfl | assumption | (simp; done))) rfl rfl rfl rfl rfl ?hb rfl, rfl, ?_⟩; case hb => (first | rfl | assumption | (simp; done)))
    (refine ⟨_, _, _, aPf (gN rfl) rfl rfl rfl rfl rfl ?hb rfl, rfl, ?_⟩; case hb => (first | rfl | assumption | (simp; done)))
    (refine nx (aM (gN rfl) rfl rfl rfl rfl rfl) rfl ?_)
    (refine nx (aM (gd_on rfl rfl rfl rfl (by first | rfl | assumption | (simp; done))) rfl rfl rfl rfl rfl) rfl ?_)
    (refine nx (a_eql (gd_on rfl rfl rfl rfl (by first | rfl | assumption | (simp; done))) rfl rfl rfl rfl rfl rfl) rfl ?_)
    (refine ⟨_, _, _, aPf (gN rfl) rfl rfl rfl rfl rfl ?hb rfl, rfl, ?_⟩; case hb => (first | rfl | assumption | (simp; done)))
    (refine nx (aA (gN rfl) rfl rfl rfl rfl rfl) rfl ?_)
    show AWp _ _ _ _ _ _ _
    exact aT (And.intro (.inr rfl) rfl)
-- 
theorem isSm_abs (W : World) (s : By) (hs : s ≠ []) : AFun Tryd.prog W 40 [sv s] (.val (.b (isSmL s))) := by
  obtain ⟨b, l, rfl⟩ : ∃ b l, s = b :: l := by
    cases s with
    | nil => exact absurd rfl hs
    | cons b l => exact ⟨b, l, rfl⟩
  refine afun_of (rs := [.b (smB b)]) Tryd.func40 Tryd.ntmps40 rfl rfl rfl rfl ?_
  intro w U hW
  refine aS (aR ?_)
  (refine nx (aA (gN rfl) rfl rfl rfl rfl rfl) rfl ?_)
  show AWp _ _ _ _ _ _ _
  refine aS (aR ?_)
  (refine nx (aM (gN rfl) rfl rfl rfl rfl rfl) rfl ?_)
  (refine nx (a_sidx (0) (gN rfl) rfl rfl rfl rfl rfl rfl rfl (by first | rfl | omega | (simp only [List.length_set, List.length_map, List.length_append, List.length_cons, List.length_nil] <;> omega) | (simp <;> omega)) (rfl)) rfl ?_)
  (refine nx (a_call (gN rfl) rfl rfl rfl rfl rfl (smB_abs w b)) rfl ?_)
  (refine nx (aA (gN rfl) rfl rfl rfl rfl rfl) rfl ?_)
  show AWp _ _ _ _ _ _ _
  exact aT (And.intro (.inr rfl) rfl)
-- 
theorem isGr_abs (W : World) (s : By) (hs : s ≠ []) : AFun Tryd.prog W 47 [sv s] (.val (.b (isGrL s))) := by
  obtain ⟨b, l, rfl⟩ : ∃ b l, s = b :: l := by
    cases s with
    | nil => exact absurd rfl hs
    | cons b l => exact ⟨b, l, rfl⟩
  refine afun_of (rs := [.b (grB b)]) Tryd.func47 Tryd.ntmps47 rfl rfl rfl rfl ?_
  intro w U hW
  refine aS (aR ?_)
  (refine nx (aA (gN rfl) rfl rfl rfl rfl rfl) rfl ?_)
  show AWp _ _ _ _ _ _ _
  refine aS (aR ?_)
  (refine nx (aM (gN rfl) rfl rfl rfl rfl rfl) rfl ?_)
  (refine nx (a_sidx (0) (gN rfl) rfl rfl rfl rfl rfl rfl rfl (by first | rfl | omega | (simp only [List.length_set, List.length_map, List.length_append, List.length_cons, List.length_nil] <;> omega) | (simp <;> omega)) (rfl)) rfl ?_)
  (refine nx (a_call (gN rfl) rfl rfl rfl rfl rfl (grB_abs w b)) rfl ?_)
  (refine nx (aA (gN rfl) rfl rfl rfl rfl rfl) rfl ?_)
  show AWp _ _ _ _ _ _ _
  exact aT (And.intro (.inr rfl) rfl)
theorem nmSz_at : ∀ {s : By} {k : Nat} {b : UInt8}, (∀ (i : Nat) c, i < k → s[i]? = some c → inB c = true) → s[k]? = some b → inB b = false → nmSz s = k
  | [], k, b, _, h, _ => by simp at h
  | c :: s, 0, b, _, h, hb => by
    simp at h
    subst h
    unfold nmSz
    rw [List.takeWhile_cons_of_neg (by rw [hb]; simp)]
    rfl
  | c :: s, k + 1, b, hI, h, hb => by
    have := nmSz_at (s := s) (k := k) (b := b) (fun i x hi hx => hI (i + 1) x (by omega) (by simpa using hx)) (by simpa using h) hb
    unfold nmSz at *
    rw [List.takeWhile_cons_of_pos (hI 0 c (by omega) rfl), List.length_cons, this]
theorem nmSz_all : ∀ {s : By}, (∀ (i : Nat) c, s[i]? = some c → inB c = true) → nmSz s = s.length
  | [], _ => rfl
  | c :: s, hI => by
    have := nmSz_all (s := s) fun i x hx => hI (i + 1) x (by simpa using hx)
    unfold nmSz at *
    rw [List.takeWhile_cons_of_pos (hI 0 c rfl), List.length_cons, List.length_cons, this]
-- 
theorem nmSz_abs (W : World) (s : By) (hs : s.length ≤ 1000000000) : AFun Tryd.prog W 48 [sv s] (.val (.i (nmSz s : Int))) := by
  refine afun_of (rs := [.i (nmSz s : Int)]) Tryd.func48 Tryd.ntmps48 rfl rfl rfl rfl ?_
  intro w U hW
  refine aS (aR ?_)
  (refine nx (aA (gN rfl) rfl rfl rfl rfl rfl) rfl ?_)
  show AWp _ _ _ _ _ _ _
  refine aS (aS (aR ?_))
  (refine nx (aM (gN rfl) rfl rfl rfl rfl rfl) rfl ?_)
  (refine nx (a_slen (gN rfl) rfl rfl rfl rfl rfl rfl rfl) rfl ?_)
  (refine nx (aM (gN rfl) rfl rfl rfl rfl rfl) rfl ?_)
  show AWp _ _ _ _ _ _ _
  refine aB (awp_countI s.length (fun k => ∀ (i : Nat) c, i < k → s[i]? = some c → inB c = true) (fun k => [(0, .val (sv s)), (5, .val (.i s.length)), (6, .val (.i k))]) (wk_sub ⟨rfl, rfl, rfl, trivial⟩) (fun i _ hi => by omega) ?_)
  intro k hk hI
  refine aS (aR ?_)
  (refine nx (a_lss (gN rfl) rfl rfl rfl rfl rfl rfl) rfl ?_)
  show AWp _ _ _ _ _ _ _
  refine aS (aC rfl (fun hlt => ?_) (fun hlt => ?_))
  · have hkl : k < s.length := by simpa using hlt
    obtain ⟨b, hb⟩ : ∃ b, s[k]? = some b := ⟨s[k], List.getElem?_eq_getElem hkl⟩
    refine aK ?_
    show AWp _ _ _ _ _ _ _
    refine aS (aB (aS (aR ?_)))
    (refine nx (aM (gN rfl) rfl rfl rfl rfl rfl) rfl ?_)
    (refine nx (aA (gN rfl) rfl rfl rfl rfl rfl) rfl ?_)
    show AWp _ _ _ _ _ _ _
    refine aS (aR ?_)
    (refine nx (aM (gN rfl) rfl rfl rfl rfl rfl) rfl ?_)
    (refine nx (aM (gN rfl) rfl rfl rfl rfl rfl) rfl ?_)
    (refine nx (a_sidx (k) (gN rfl) rfl rfl rfl rfl rfl rfl rfl (by first | rfl | omega | (simp only [List.length_set, List.length_map, List.length_append, List.length_cons, List.length_nil] <;> omega) | (simp <;> omega)) (hb)) rfl ?_)
    (refine nx (a_call (gN rfl) rfl rfl rfl rfl rfl (inB_abs w b)) rfl ?_)
    (refine nx (a_not (gN rfl) rfl rfl rfl rfl rfl) rfl ?_)
    show AWp _ _ _ _ _ _ _
    refine aC rfl (fun h => ?_) (fun h => aK ?_)
    · have h : inB b = false := by simpa using h
      rw [nmSz_at hI hb h]
      refine aS (aR ?_)
      (refine nx (aM (gN rfl) rfl rfl rfl rfl rfl) rfl ?_)
      (refine nx (aA (gN rfl) rfl rfl rfl rfl rfl) rfl ?_)
      show AWp _ _ _ _ _ _ _
      exact aT (And.intro (.inr rfl) rfl)
    · have h : inB b = true := by simpa using h
      show AWp _ _ _ _ _ _ _
      refine aR ?_
      (refine nx (a_add (gN rfl) rfl rfl rfl rfl rfl rfl (by first | omega | (simp only [List.length_map, List.length_append, List.length_cons, List.length_nil] <;> omega) | (simp <;> omega))) rfl ?_)
      (refine nx (aM (gN rfl) rfl rfl rfl rfl rfl) rfl ?_)
      refine ⟨hkl, fun i c hi hc => ?_, wk_sub ⟨rfl, rfl, rfl, trivial⟩⟩
      rcases Nat.lt_or_ge i k with h3 | h3
      · exact hI i c h3 hc
      · rw [show i = k by omega, hb] at hc
        cases hc
        exact h
  · have hkl : k = s.length := by
      have : ¬ k < s.length := by simpa using hlt
      omega
    subst hkl
    rw [nmSz_all fun i c hc => hI i c (by have := (List.getElem?_eq_some_iff.1 hc).1; omega) hc]
    refine aE ?_
    show AWp _ _ _ _ _ _ _
    refine aS (aR ?_)
    (refine nx (aM (gN rfl) rfl rfl rfl rfl rfl) rfl ?_)
    (refine nx (a_slen (gN rfl) rfl rfl rfl rfl rfl rfl rfl) rfl ?_)
    (refine nx (aA (gN rfl) rfl rfl rfl rfl rfl) rfl ?_)
    show AWp _ _ _ _ _ _ _
    exact aT (And.intro (.inr rfl) rfl)
-- 
theorem tkSz_abs (W : World) (s : By) (hs : s.length ≤ 1000000000) : AFun Tryd.prog W 38 [sv s] (.val (.i (tkSz s : Int))) := by
  refine afun_of (rs := [.i (tkSz s : Int)]) Tryd.func38 Tryd.ntmps38 rfl rfl rfl rfl ?_
  intro w U hW
  refine aS (aR ?_)
  (refine nx (aA (gN rfl) rfl rfl rfl rfl rfl) rfl ?_)
  show AWp _ _ _ _ _ _ _
  refine aS (aB (aS (aR ?_)))
  (refine nx (aM (gN rfl) rfl rfl rfl rfl rfl) rfl ?_)
  (refine nx (a_seql (gN rfl) rfl rfl rfl rfl rfl rfl rfl) rfl ?_)
  (refine nx (aA (gN rfl) rfl rfl rfl rfl rfl) rfl ?_)
  show AWp _ _ _ _ _ _ _
  refine aC rfl (fun h => ?_) (fun h => ?_)
  · have h : s = [] := of_decide_eq_true h
    have e : tkSz s = 0 := by unfold tkSz; rw [if_pos h]
    rw [e]
    refine aS (aR ?_)
    (refine nx (aA (gN rfl) rfl rfl rfl rfl rfl) rfl ?_)
    show AWp _ _ _ _ _ _ _
    exact aT (And.intro (.inr rfl) rfl)
  have hne : s ≠ [] := of_decide_eq_false h
  have c1 := isSm_abs w s hne
  have c2 := isGr_abs w s hne
  have name : (isSmL s || isGrL s) = true → tkSz s = nmSz s := fun h => by unfold tkSz; rw [if_neg hne, if_pos h]
  cases h1 : isSmL s with
  | true =>
    rw [h1] at c1
    rw [name (by rw [h1]; rfl)]
    refine aS (aR ?_)
    (refine nx (aM (gN rfl) rfl rfl rfl rfl rfl) rfl ?_)
    (refine nx (a_call (gN rfl) rfl rfl rfl rfl rfl (c1)) rfl ?_)
    (refine nx (aM (gN rfl) rfl rfl rfl rfl rfl) rfl ?_)
    (refine ⟨_, _, _, a_off (go_off rfl rfl rfl rfl (by first | rfl | assumption | (simp; done) | (simp [*]; done))) rfl rfl rfl, rfl, ?_⟩)
    (refine ⟨_, _, _, a_off (go_off rfl rfl rfl rfl (by first | rfl | assumption | (simp; done) | (simp [*]; done))) rfl rfl rfl, rfl, ?_⟩)
    (refine ⟨_, _, _, aPt (gN rfl) rfl rfl rfl rfl rfl ?hb rfl, rfl, ?_⟩; case hb => (first | rfl | assumption | (simp; done)))
    (refine nx (aA (gN rfl) rfl rfl rfl rfl rfl) rfl ?_)
    show AWp _ _ _ _ _ _ _
    refine aC rfl (fun h => ?_) (fun h => by cases h)
    refine aS (aR ?_)
    (refine nx (aM (gN rfl) rfl rfl rfl rfl rfl) rfl ?_)
    (refine nx (a_call (gN rfl) rfl rfl rfl rfl rfl (nmSz_abs w s hs)) rfl ?_)
    (refine nx (aA (gN rfl) rfl rfl rfl rfl rfl) rfl ?_)
    show AWp _ _ _ _ _ _ _
    exact aT (And.intro (.inr rfl) rfl)
  | false =>
  rw [h1] at c1
  refine aS (aR ?_)
  (refine nx (aM (gN rfl) rfl rfl rfl rfl rfl) rfl ?_)
  (refine nx (a_call (gN rfl) rfl rfl rfl rfl rfl (c1)) rfl ?_)
  (refine nx (aM (gN rfl) rfl rfl rfl rfl rfl) rfl ?_)
  (refine nx (aM (gd_on rfl rfl rfl rfl (by first | rfl | assumption | (simp; done))) rfl rfl rfl rfl rfl) rfl ?_)
  (refine nx (a_call (gd_on rfl rfl rfl rfl (by first | rfl | assumption | (simp; done))) rfl rfl rfl rfl rfl (c2)) rfl ?_)
  (refine ⟨_, _, _, aPf (gN rfl) rfl rfl rfl rfl rfl ?hb rfl, rfl, ?_⟩; case hb => (first | rfl | assumption | (simp; done)))
  (refine nx (aA (gN rfl) rfl rfl rfl rfl rfl) rfl ?_)
  show AWp _ _ _ _ _ _ _
  refine aC rfl (fun h => ?_) (fun h => ?_)
  · rw [name (by rw [h1]; exact h)]
    refine aS (aR ?_)
    (refine nx (aM (gN rfl) rfl rfl rfl rfl rfl) rfl ?_)
    (refine nx (a_call (gN rfl) rfl rfl rfl rfl rfl (nmSz_abs w s hs)) rfl ?_)
    (refine nx (aA (gN rfl) rfl rfl rfl rfl rfl) rfl ?_)
    show AWp _ _ _ _ _ _ _
    exact aT (And.intro (.inr rfl) rfl)
  have h2 : ¬ (isSmL s || isGrL s) = true := by rw [h1]; have h : isGrL s = false := h; rw [h]; simp
  refine aS (aR ?_)
  (refine nx (aM (gN rfl) rfl rfl rfl rfl rfl) rfl ?_)
  (refine nx (a_call (gN rfl) rfl rfl rfl rfl rfl (hasP_abs w s neverB)) rfl ?_)
  (refine nx (aA (gN rfl) rfl rfl rfl rfl rfl) rfl ?_)
  show AWp _ _ _ _ _ _ _
  refine aC rfl (fun h => ?_) (fun h => ?_)
  · have h : Lib.hasPrefix s neverB = true := h
    have e : tkSz s = 6 := by unfold tkSz; rw [if_neg hne, if_neg h2, if_pos h]
    rw [e]
    refine aS (aR ?_)
    (refine nx (aA (gN rfl) rfl rfl rfl rfl rfl) rfl ?_)
    show AWp _ _ _ _ _ _ _
    exact aT (And.intro (.inr rfl) rfl)
  have h3 : ¬ Lib.hasPrefix s neverB = true := by have h : Lib.hasPrefix s neverB = false := h; rw [h]; simp
  refine aS (aR ?_)
  (refine nx (aM (gN rfl) rfl rfl rfl rfl rfl) rfl ?_)
  (refine nx (a_call (gN rfl) rfl rfl rfl rfl rfl (hasP_abs w s unlB)) rfl ?_)
  (refine nx (aA (gN rfl) rfl rfl rfl rfl rfl) rfl ?_)
  show AWp _ _ _ _ _ _ _
  refine aC rfl (fun h => ?_) (fun h => ?_)
  · have h : Lib.hasPrefix s unlB = true := h
    have e : tkSz s = 2 := by unfold tkSz; rw [if_neg hne, if_neg h2, if_neg h3, if_pos h]
    rw [e]
    refine aS (aR ?_)
    (refine nx (aA (gN rfl) rfl rfl rfl rfl rfl) rfl ?_)
    show AWp _ _ _ _ _ _ _
    exact aT (And.intro (.inr rfl) rfl)
  have h4 : ¬ Lib.hasPrefix s unlB = true := by have h : Lib.hasPrefix s unlB = false := h; rw [h]; simp
  have e : tkSz s = 1 := by unfold tkSz; rw [if_neg hne, if_neg h2, if_neg h3, if_neg h4]
  rw [e]
  refine aK ?_
  show AWp _ _ _ _ _ _ _
  refine aS (aR ?_)
  (refine nx (aA (gN rfl) rfl rfl rfl rfl rfl) rfl ?_)
  show AWp _ _ _ _ _ _ _
  exact aT (And.intro (.inr rfl) rfl)
-- 
theorem bh_abs (W : World) (s : By) (hs : s.length ≤ 1000000000) : AFun Tryd.prog W 37 [sv s] (.val (sv (bh s))) := by
  refine afun_of (rs := [sv (bh s)]) Tryd.func37 Tryd.ntmps37 rfl rfl rfl rfl ?_
  intro w U hW
  refine aS (aR ?_)
  (refine nx (aA (gN rfl) rfl rfl rfl rfl rfl) rfl ?_)
  show AWp _ _ _ _ _ _ _
  refine aB (awp_loop (fun m st => ∃ c, c.length ≤ 1000000000 ∧ bhN m c = some (bh s) ∧ st = [(0, .val (sv c))]) (n := s.length + 1) (s' := [(0, .val (sv s))]) (wk_sub ⟨rfl, trivial⟩) ⟨s, hs, (bh_eq s).1, rfl⟩ ?_)
  rintro m st ⟨c, hc, hm, rfl⟩
  obtain ⟨m, rfl⟩ : ∃ k, m = k + 1 := by
    cases m with
    | zero => cases hm
    | succ m => exact ⟨m, rfl⟩
  have htl := trm_len c
  unfold bhN at hm
  refine aB (aS (aR ?_))
  (refine nx (aM (gN rfl) rfl rfl rfl rfl rfl) rfl ?_)
  (refine nx (a_call (gN rfl) rfl rfl rfl rfl rfl (trim_abs w c)) rfl ?_)
  (refine nx (aA (gN rfl) rfl rfl rfl rfl rfl) rfl ?_)
  show AWp _ _ _ _ _ _ _
  refine aS (aS (aR ?_))
  (refine nx (aM (gN rfl) rfl rfl rfl rfl rfl) rfl ?_)
  (refine nx (a_call (gN rfl) rfl rfl rfl rfl rfl (hasP_abs w (trm c) [37])) rfl ?_)
  (refine nx (a_not (gN rfl) rfl rfl rfl rfl rfl) rfl ?_)
  show AWp _ _ _ _ _ _ _
  refine aC rfl (fun h => ?_) (fun h => aK ?_)
  · have h : Lib.hasPrefix (trm c) [37] = false := by simpa using h
    rw [h] at hm
    simp only [Bool.false_eq_true, if_false, Option.some.injEq] at hm
    rw [← hm]
    refine aS (aR ?_)
    (refine nx (aM (gN rfl) rfl rfl rfl rfl rfl) rfl ?_)
    (refine nx (aA (gN rfl) rfl rfl rfl rfl rfl) rfl ?_)
    show AWp _ _ _ _ _ _ _
    exact aT (And.intro (.inr rfl) rfl)
  · have h : Lib.hasPrefix (trm c) [37] = true := by simpa using h
    rw [if_pos h] at hm
    have hnl := behNl_len (trm c)
    obtain ⟨p, q, hcut⟩ := cut_abs w (trm c) (by omega)
    show AWp _ _ _ _ _ _ _
    refine aR ?_
    (refine nx (aM (gN rfl) rfl rfl rfl rfl rfl) rfl ?_)
    (refine nx (a_call (gN rfl) rfl rfl rfl rfl rfl (hcut)) rfl ?_)
    (refine nx (aM (gN rfl) rfl rfl rfl rfl rfl) rfl ?_)
    (refine nx (aX (gN rfl) rfl rfl rfl rfl rfl rfl) rfl ?_)
    (refine nx (aX (gN rfl) rfl rfl rfl rfl rfl rfl) rfl ?_)
    (refine nx (aX (gN rfl) rfl rfl rfl rfl rfl rfl) rfl ?_)
    (refine nx (aA (gN rfl) rfl rfl rfl rfl rfl) rfl ?_)
    exact ⟨m, _, by omega, ⟨behNl (trm c), by omega, hm, rfl⟩, wk_sub ⟨rfl, trivial⟩⟩
end Go.Proofs.YtglbohajmccehaaDoor

namespace Go.Proofs.YtglbohajmccehaaDoor
open Go.RowKit Go.MapKept
open Go.ChangeMaps (setBlock)
set_option linter.unusedVariables false
set_option linter.unusedSimpArgs false
section
variable {P : Program} {w0 : World} {U0 : UX} {nt : Nat} {ops : Array Oper} {o : Oper} {S : Nat → Option AV} {gs : List Nat} {d : Nat} {s : AS} {a : Act} {w : World} {D : Nat → Nat → Prop} {hv : Nat → Value}

abbrev AV.stm (l : List CV) (b clock : Nat) (bs : List Nat) : AV := ⟨22, .lst l, 0, 0, b :: clock :: bs⟩
abbrev AV.itr (b since c0 : Nat) (seen : List Nat) : AV := ⟨21, .row [], 0, 0, b :: since :: c0 :: seen⟩

end
end Go.Proofs.YtglbohajmccehaaDoor
namespace Go.Proofs.YtglbohajmccehaaDoor
open Go.RowKit Go.MapKept
set_option linter.unusedVariables false
set_option linter.unusedSimpArgs false
def AFunE {Sg : Type} (P : Program) (f : FuncId) (pre : AS) (args : List AV) (R : Sg → Prop) (r : Sg → AV) (post : Sg → AS) : Prop :=
  EntF P f ∧ ∀ (U : UX) (w : World) (hv : Nat → Value) (a0 : Act) (vs : List Value), (∀ k v, U.f k = some v → hasN (kO pre) k = true) → SimG w U 0 pre a0 w (fun _ _ => False) hv → AVReps (Us w U (fun _ _ => False)) w hv (LiveN pre) args vs →
    Calls P f vs.toArray w fun e w' => ∃ σ, R σ ∧ ∃ v D' hv' a', e = .returned v ∧ SimG w U 0 (post σ) a' w' D' hv' ∧ AVRep (Us w U D') w' hv' (LiveN (post σ)) (r σ) v
section
variable {P : Program} {w0 : World} {U0 : UX} {nt : Nat} {ops : Array Oper} {o : Oper} {S : Nat → Option AV} {gs : List Nat} {d : Nat} {s : AS} {a : Act} {w : World} {D : Nat → Nat → Prop} {hv : Nat → Value}
theorem a_lenMp (hg : Gd w0 U0 nt ops o gs S) (hd : o.dst = some d) (hn : Nat.blt d nt = true) (h5 : Nat.blt d 100000 = true) {x : Operand} {ts : Array TypeId} {t kt et : TypeId} {n : Nat} {l : List CV} (ho : o.op = .call { callee := .builtin .len, args := #[x], argTypes := ts }) (ht : ts[0]? = some t) (hu : P.underlying t = some (.map kt et)) (hx : ev S x = some (.mref n)) (hm' : S n = some (.mp l)) : AOp P w0 U0 nt ops o (gs ++ (rd x ++ [n])) [] S [(d, .val (.i l.length))] :=
  aop_val hg hd hn h5 (fun k hk => List.mem_append_left _ hk) fun s hs a w D hv hm => by
    obtain ⟨hrn, h1, _⟩ : RN n ∧ a.eval x = hv n ∧ (a.eval x).oneCell' = true := ev_rep hm (fun k hk => hs k (List.mem_append_right _ (List.mem_append_left _ hk))) hx
    have hok : oKey n := by unfold RN at hrn; unfold oKey; omega
    obtain ⟨g, es, clock, g1, g2, g3, g4, g5⟩ : ∃ g es clock, hv n = .map (some g) ∧ w.heap[g]? = some (.map es clock) ∧ Ents (Us w0 U0 D) w l es.toList ∧ (∀ e ∈ es, e.born < clock) ∧ (es.toList.map (fun e : MapEntry => e.born)).Nodup := hm.obj n _ ((hs n (by simp)).trans hm') hok
    rw [g1] at h1
    have hge := Go.MapKept.run_getObj_map (P := P) g2
    have hlen : es.size = l.length := by have := ents_len g3; simpa using this
    refine ⟨.int .i64 (l.length : Int), ?_, avrep_sc rfl⟩
    generalize a.eval = ρ at h1 ⊢
    simp [execOp, ho, resolve, invoke, builtin, Builtin.len_, ht, h1, hge, hlen, goInt, run_underlying hu, go_sem]
end
end Go.Proofs.YtglbohajmccehaaDoor
-- @STR@
namespace Go.Proofs.YtglbohajmccehaaDoor
open Go.RowKit
set_option linter.unusedVariables false
set_option linter.unusedSimpArgs false
set_option maxRecDepth 100000

def idxS (l : List By) (s : By) : Int := match l.findIdx? (fun x => decide (s = x)) with | some i => (i : Int) | none => -1
-- 
theorem idxS_abs (l : List By) (s : By) (hl : l.length ≤ 1000000) : AFunO Tryd.prog 71 [(400000, .mrow 9 1 (l.map sv))] [.sl 400000 0 l.length 1, .val (sv s)] (.val (.i (idxS l s))) [(400000, .mrow 9 1 (l.map sv))] := by
  obtain ⟨R, hR⟩ : ∃ R, R = idxS l s := ⟨_, rfl⟩
  rw [← hR]
  unfold idxS at hR
  refine afunO_of Tryd.func71 Tryd.ntmps71 rfl rfl rfl rfl rfl rfl ?_
  intro w U hU
  refine aS (aR ?_)
  (refine nx (aA (gN rfl) rfl rfl rfl rfl rfl) rfl ?_)
  show AWp _ _ _ _ _ _ _
  refine aS (aS (aR ?_))
  (refine nx (aM (gN rfl) rfl rfl rfl rfl rfl) rfl ?_)
  (refine nx (a_lenM (gN rfl) rfl rfl rfl rfl rfl rfl rfl) rfl ?_)
  (refine nx (aM (gN rfl) rfl rfl rfl rfl rfl) rfl ?_)
  show AWp _ _ _ _ _ _ _
  refine aB (awp_countI l.length (fun k => ∀ x ∈ l.take k, decide (s = x) = false) (fun k => [(0, .sl 400000 0 l.length 1), (1, .val (sv s)), (7, .val (.i l.length)), (8, .val (.i k)), (400000, .mrow 9 1 (l.map sv))]) (wk_sub ⟨rfl, rfl, rfl, rfl, rfl, trivial⟩) (by simp) ?_)
  intro k hk hI
  refine aS (aR ?_)
  (refine nx (a_lss (gN rfl) rfl rfl rfl rfl rfl rfl) rfl ?_)
  show AWp _ _ _ _ _ _ _
  refine aS (aC rfl (fun hlt => ?_) (fun hlt => ?_))
  · have hkl : k < l.length := by simpa using hlt
    obtain ⟨x, hx⟩ : ∃ x, l[k]? = some x := ⟨l[k], List.getElem?_eq_getElem hkl⟩
    have hx' := sv_at hx
    refine aK ?_
    show AWp _ _ _ _ _ _ _
    refine aS (aB (aS (aR ?_)))
    (refine nx (aM (gN rfl) rfl rfl rfl rfl rfl) rfl ?_)
    (refine nx (aA (gN rfl) rfl rfl rfl rfl rfl) rfl ?_)
    show AWp _ _ _ _ _ _ _
    refine aS (aR ?_)
    (refine nx (aM (gN rfl) rfl rfl rfl rfl rfl) rfl ?_)
    (refine nx (aM (gN rfl) rfl rfl rfl rfl rfl) rfl ?_)
    (refine nx (aM (gN rfl) rfl rfl rfl rfl rfl) rfl ?_)
    (refine nx (aIm (k := k) (gN rfl) rfl rfl rfl rfl rfl rfl rfl rfl rfl (by first | rfl | omega | (simp only [List.length_set, List.length_map, List.length_append, List.length_cons, List.length_nil] <;> omega) | (simp <;> omega))) rfl ?_)
    (refine nx (a_loadM (gN rfl) rfl rfl rfl rfl rfl rfl rfl rfl (hx') rfl (by first | rfl | omega | (simp only [List.length_set, List.length_map, List.length_append, List.length_cons, List.length_nil] <;> omega) | (simp <;> omega)) rfl rfl) rfl ?_)
    (refine nx (a_seql (gN rfl) rfl rfl rfl rfl rfl rfl rfl) rfl ?_)
    show AWp _ _ _ _ _ _ _
    refine aC rfl (fun hp => ?_) (fun hp => ?_)
    · have hRk : R = k := by
        rw [hR]
        have : l.findIdx? (fun x => decide (s = x)) = some k := by
          rw [List.findIdx?_eq_some_iff_getElem]
          obtain ⟨hk2, e⟩ := List.getElem?_eq_some_iff.1 hx
          refine ⟨hk2, by rw [e]; exact hp, fun j hj => ?_⟩
          have := hI l[j] (List.mem_take_iff_getElem.2 ⟨j, by omega, rfl⟩)
          simpa using this
        rw [this]
      rw [hRk]
      refine aS (aR ?_)
      (refine nx (aM (gN rfl) rfl rfl rfl rfl rfl) rfl ?_)
      (refine nx (aA (gN rfl) rfl rfl rfl rfl rfl) rfl ?_)
      show AWp _ _ _ _ _ _ _
      exact aT ⟨.inr rfl, _, Wk.refl _, rfl, rfl, trivial⟩
    · refine aK ?_
      show AWp _ _ _ _ _ _ _
      refine aR ?_
      (refine nx (a_add (gN rfl) rfl rfl rfl rfl rfl rfl (by first | omega | (simp only [List.length_map, List.length_append, List.length_cons, List.length_nil] <;> omega) | (simp <;> omega))) rfl ?_)
      (refine nx (aM (gN rfl) rfl rfl rfl rfl rfl) rfl ?_)
      refine ⟨hkl, ?_, wk_sub ⟨rfl, rfl, rfl, rfl, rfl, trivial⟩⟩
      intro y hy
      rw [List.take_add_one, hx, List.mem_append] at hy
      rcases hy with hy | hy
      · exact hI y hy
      · simp at hy; rw [hy]; exact hp
  · have hkl : k = l.length := by
      have : ¬ k < l.length := by simpa using hlt
      omega
    subst hkl
    rw [List.take_length] at hI
    have hRn : R = -1 := by
      rw [hR, List.findIdx?_eq_none_iff.2 fun x hx => by rw [hI x hx]]
    rw [hRn]
    refine aE ?_
    show AWp _ _ _ _ _ _ _
    refine aS (aR ?_)
    (refine nx (aA (gN rfl) rfl rfl rfl rfl rfl) rfl ?_)
    show AWp _ _ _ _ _ _ _
    exact aT ⟨.inr rfl, _, Wk.refl _, rfl, rfl, trivial⟩
theorem idxS_mem (l : List By) (s : By) : decide (idxS l s ≥ 0) = decide (s ∈ l) := by
  unfold idxS
  cases h : l.findIdx? (fun x => decide (s = x)) with
  | none =>
    have h1 := List.findIdx?_eq_none_iff.1 h
    have : ¬ s ∈ l := fun hm => by have := h1 s hm; simp at this
    simp [this]
  | some i =>
    obtain ⟨hi, hp, _⟩ := List.findIdx?_eq_some_iff_getElem.1 h
    have : s ∈ l := by
      have hp : s = l[i] := by simpa using hp
      rw [hp]; exact List.getElem_mem hi
    simp [this]
-- 
theorem conS_abs (l : List By) (s : By) (hl : l.length ≤ 1000000) : AFunO Tryd.prog 64 [(400000, .mrow 9 1 (l.map sv))] [.sl 400000 0 l.length 1, .val (sv s)] (.val (.b (decide (s ∈ l)))) [(400000, .mrow 9 1 (l.map sv))] := by
  have h := idxS_abs l s hl
  rw [← idxS_mem]
  refine afunO_of Tryd.func64 Tryd.ntmps64 rfl rfl rfl rfl rfl rfl ?_
  intro w U hU
  refine aS (aR ?_)
  (refine nx (aA (gN rfl) rfl rfl rfl rfl rfl) rfl ?_)
  show AWp _ _ _ _ _ _ _
  refine aS (aR ?_)
  (refine nx (aM (gN rfl) rfl rfl rfl rfl rfl) rfl ?_)
  (refine nx (aM (gN rfl) rfl rfl rfl rfl rfl) rfl ?_)
  (refine nx (a_callO (gN rfl) rfl rfl rfl rfl rfl (h) (by repeat (first | exact trivial | refine ⟨rfl, ?_⟩)) (by first | rfl | kernel_rfl) (by first | rfl | kernel_rfl) (by first | rfl | kernel_rfl) (by first | rfl | kernel_rfl) (hnb_of (by first | rfl | kernel_rfl))) rfl ?_)
  (refine nx (a_geq (gN rfl) rfl rfl rfl rfl rfl rfl) rfl ?_)
  (refine nx (aA (gN rfl) rfl rfl rfl rfl rfl) rfl ?_)
  show AWp _ _ _ _ _ _ _
  exact aT ⟨.inr rfl, _, Wk.refl _, rfl, rfl, trivial⟩
-- 
set_option maxHeartbeats 1000000 in
theorem var_abs (st : Nm) (v : By) (h : st.ok) (hv : v.length ≤ 1000000) (hl : st.vr.length < 1000000) : AFunO Tryd.prog 53 (nmS st) [.bp 350001 0 [], .val (sv v)] (.val (.i ((varF st v).1 : Nat))) (nmS (varF st v).2) := by
  have hgk := good_str v (by omega)
  unfold varF
  cases hf : lkA st.vr v with
  | some i =>
    obtain ⟨y1, y2⟩ := vr_yes h hf
    refine afunO_of Tryd.func53 Tryd.ntmps53 rfl rfl rfl rfl rfl rfl ?_
    intro w U hU
    refine aS (aR ?_)
    (refine nx (aA (gN rfl) rfl rfl rfl rfl rfl) rfl ?_)
    show AWp _ _ _ _ _ _ _
    refine aS (aR ?_)
    (refine nx (aM (gN rfl) rfl rfl rfl rfl rfl) rfl ?_)
    (refine nx (aNc (gN rfl) rfl rfl rfl rfl rfl) rfl ?_)
    (refine nx (aF (gN rfl) rfl rfl rfl rfl rfl rfl rfl rfl rfl) rfl ?_)
    (refine nx (aLf (gN rfl) rfl rfl rfl rfl rfl rfl rfl rfl rfl rfl rfl rfl rfl) rfl ?_)
    (refine nx (aM (gN rfl) rfl rfl rfl rfl rfl) rfl ?_)
    (refine nx (a_lookK (gN rfl) rfl rfl rfl rfl rfl rfl rfl rfl (sv_is) (K_str) (hgk) (vr_keysP h) (y1) (y2)) rfl ?_)
    (refine nx (aM (gN rfl) rfl rfl rfl rfl rfl) rfl ?_)
    (refine nx (aX (gN rfl) rfl rfl rfl rfl rfl rfl) rfl ?_)
    (refine nx (aX (gN rfl) rfl rfl rfl rfl rfl rfl) rfl ?_)
    (refine nx (aA (gN rfl) rfl rfl rfl rfl rfl) rfl ?_)
    (refine nx (aA (gN rfl) rfl rfl rfl rfl rfl) rfl ?_)
    show AWp _ _ _ _ _ _ _
    refine aS (aS (aR ?_))
    (refine nx (aM (gN rfl) rfl rfl rfl rfl rfl) rfl ?_)
    (refine nx (a_not (gN rfl) rfl rfl rfl rfl rfl) rfl ?_)
    show AWp _ _ _ _ _ _ _
    refine aC rfl (fun hc => by cases hc) (fun hc => aK ?_)
    show AWp _ _ _ _ _ _ _
    refine aS (aR ?_)
    (refine nx (aM (gN rfl) rfl rfl rfl rfl rfl) rfl ?_)
    (refine nx (aA (gN rfl) rfl rfl rfl rfl rfl) rfl ?_)
    show AWp _ _ _ _ _ _ _
    exact aT ⟨.inr rfl, _, Wk.refl _, rfl, rfl, rfl, rfl, rfl, rfl, rfl, rfl, rfl, rfl, rfl, rfl, trivial⟩
  | none =>
    have hno := vr_no hf
    have hlm : (st.vr.map vrv).length = st.vr.length := List.length_map ..
    refine afunO_of Tryd.func53 Tryd.ntmps53 rfl rfl rfl rfl rfl rfl ?_
    intro w U hU
    refine aS (aR ?_)
    (refine nx (aA (gN rfl) rfl rfl rfl rfl rfl) rfl ?_)
    show AWp _ _ _ _ _ _ _
    refine aS (aR ?_)
    (refine nx (aM (gN rfl) rfl rfl rfl rfl rfl) rfl ?_)
    (refine nx (aNc (gN rfl) rfl rfl rfl rfl rfl) rfl ?_)
    (refine nx (aF (gN rfl) rfl rfl rfl rfl rfl rfl rfl rfl rfl) rfl ?_)
    (refine nx (aLf (gN rfl) rfl rfl rfl rfl rfl rfl rfl rfl rfl rfl rfl rfl rfl) rfl ?_)
    (refine nx (aM (gN rfl) rfl rfl rfl rfl rfl) rfl ?_)
    (refine nx (a_lookKn (gN rfl) rfl rfl rfl rfl rfl rfl rfl rfl rfl (sv_is) (K_str) (hgk) (vr_keysP h) (hno)) rfl ?_)
    (refine nx (aM (gN rfl) rfl rfl rfl rfl rfl) rfl ?_)
    (refine nx (aX (gN rfl) rfl rfl rfl rfl rfl rfl) rfl ?_)
    (refine nx (aX (gN rfl) rfl rfl rfl rfl rfl rfl) rfl ?_)
    (refine nx (aA (gN rfl) rfl rfl rfl rfl rfl) rfl ?_)
    (refine nx (aA (gN rfl) rfl rfl rfl rfl rfl) rfl ?_)
    show AWp _ _ _ _ _ _ _
    refine aS (aS (aR ?_))
    (refine nx (aM (gN rfl) rfl rfl rfl rfl rfl) rfl ?_)
    (refine nx (a_not (gN rfl) rfl rfl rfl rfl rfl) rfl ?_)
    show AWp _ _ _ _ _ _ _
    refine aC rfl (fun hc => ?_) (fun hc => by cases hc)
    refine aS (aR ?_)
    (refine nx (aM (gN rfl) rfl rfl rfl rfl rfl) rfl ?_)
    (refine nx (aNc (gN rfl) rfl rfl rfl rfl rfl) rfl ?_)
    (refine nx (aF (gN rfl) rfl rfl rfl rfl rfl rfl rfl rfl rfl) rfl ?_)
    (refine nx (aLf (gN rfl) rfl rfl rfl rfl rfl rfl rfl rfl rfl rfl rfl rfl rfl) rfl ?_)
    (refine nx (a_lenMp (gN rfl) rfl rfl rfl rfl rfl rfl rfl rfl) rfl ?_)
    (refine nx (aA (gN rfl) rfl rfl rfl rfl rfl) rfl ?_)
    show AWp _ _ _ _ _ _ _
    refine aR ?_
    (refine nx (aM (gN rfl) rfl rfl rfl rfl rfl) rfl ?_)
    (refine nx (aNc (gN rfl) rfl rfl rfl rfl rfl) rfl ?_)
    (refine nx (aF (gN rfl) rfl rfl rfl rfl rfl rfl rfl rfl rfl) rfl ?_)
    (refine nx (aLf (gN rfl) rfl rfl rfl rfl rfl rfl rfl rfl rfl rfl rfl rfl rfl) rfl ?_)
    (refine nx (aM (gN rfl) rfl rfl rfl rfl rfl) rfl ?_)
    (refine nx (aM (gN rfl) rfl rfl rfl rfl rfl) rfl ?_)
    (refine nx (a_putK (gN rfl) rfl rfl rfl rfl rfl rfl rfl (sv_is) (K_str) (hgk) (vr_keysP h) (hno)) rfl ?_)
    show AWp _ _ _ _ _ _ _
    refine aS (aR ?_)
    (refine nx (aM (gN rfl) rfl rfl rfl rfl rfl) rfl ?_)
    (refine nx (aA (gN rfl) rfl rfl rfl rfl rfl) rfl ?_)
    show AWp _ _ _ _ _ _ _
    refine aT ⟨.inr rfl, _, Wk.refl _, by rw [← hlm]; rfl, rfl, rfl, rfl, rfl, rfl, rfl, rfl, rfl, rfl, rfl, ?_, trivial⟩
    rw [List.map_append, ← hlm]
    rfl
-- 
set_option maxHeartbeats 2000000 in
theorem num_abs (st : Nm) (k : Kd) (h : st.ok) (hk : k.1.length ≤ 1000000 ∧ k.2.1 ≤ 1000000) : AFunO Tryd.prog 52 (nmS st) [.bp 350001 0 [], .val (.row [sv k.1, .i (k.2.1 : Int), .b k.2.2])] (.tup [.i ((numF st k).1 : Nat), .b (numF st k).2.1]) (nmS (numF st k).2.2) := by
  have hgk := good_kind k.1 k.2.1 k.2.2 (by omega) (by omega)
  obtain ⟨knm, kpt, kpr⟩ := k
  simp only at hk hgk ⊢
  unfold numF
  cases hf : lkA st.sy (knm, kpt, kpr) with
  | some i =>
    obtain ⟨y1, y2⟩ := sy_yes h hf
    simp only at y1 y2
    refine afunO_of Tryd.func52 Tryd.ntmps52 rfl rfl rfl rfl rfl rfl ?_
    intro w U hU
    refine aS (aR ?_)
    (refine nx (a_box (gN rfl) rfl rfl rfl rfl rfl) (by kernel_rfl) ?_)
    (refine nx (aA (gN rfl) rfl rfl rfl rfl rfl) rfl ?_)
    (refine nx (aA (gN rfl) rfl rfl rfl rfl rfl) rfl ?_)
    show AWp _ _ _ _ _ _ _
    refine aS (aS (aD (by kernel_rfl) (by kernel_rfl) ?_))
    (refine nx (aM (gN rfl) rfl rfl rfl rfl rfl) rfl ?_)
    (refine nx (aNc (gN rfl) rfl rfl rfl rfl rfl) rfl ?_)
    (refine nx (aF (gN rfl) rfl rfl rfl rfl rfl rfl rfl rfl rfl) rfl ?_)
    (refine nx (aLf (gN rfl) rfl rfl rfl rfl rfl rfl rfl rfl rfl rfl rfl rfl rfl) rfl ?_)
    (refine nx (aL (gN rfl) rfl rfl rfl rfl rfl rfl rfl rfl rfl rfl rfl rfl) rfl ?_)
    (refine nx (a_lookK (gN rfl) rfl rfl rfl rfl rfl rfl rfl rfl (kd_is) (K_kind) (hgk) (sy_keys h) (y1) (y2)) rfl ?_)
    (refine nx (aM (gN rfl) rfl rfl rfl rfl rfl) rfl ?_)
    (refine nx (aX (gN rfl) rfl rfl rfl rfl rfl rfl) rfl ?_)
    (refine nx (aX (gN rfl) rfl rfl rfl rfl rfl rfl) rfl ?_)
    (refine nx (aA (gN rfl) rfl rfl rfl rfl rfl) rfl ?_)
    (refine nx (aA (gN rfl) rfl rfl rfl rfl rfl) rfl ?_)
    refine ⟨by kernel_rfl, ?_⟩
    show AWp _ _ _ _ _ _ _
    refine aS (aR ?_)
    (refine nx (aM (gN rfl) rfl rfl rfl rfl rfl) rfl ?_)
    show AWp _ _ _ _ _ _ _
    refine aC rfl (fun hc => ?_) (fun hc => by cases hc)
    refine aS (aR ?_)
    (refine nx (aM (gN rfl) rfl rfl rfl rfl rfl) rfl ?_)
    (refine nx (aA (gN rfl) rfl rfl rfl rfl rfl) rfl ?_)
    (refine nx (aA (gN rfl) rfl rfl rfl rfl rfl) rfl ?_)
    show AWp _ _ _ _ _ _ _
    exact aT ⟨.inr rfl, _, Wk.refl _, rfl, rfl, rfl, rfl, rfl, rfl, rfl, rfl, rfl, rfl, rfl, rfl, trivial⟩
  | none =>
  have hno := sy_no hf
  simp only at hno
  have hsm := h.small
  have hco := conS_abs st.sg.nm knm (by omega)
  refine afunO_of Tryd.func52 Tryd.ntmps52 rfl rfl rfl rfl rfl rfl ?_
  intro w U hU
  have hUf : U.f 400000 = none := by
    cases hh : U.f 400000 with
    | none => rfl
    | some x => have := hU _ _ hh; cases this
  have hUb : U.f 300001 = none := by
    cases hh : U.f 300001 with
    | none => rfl
    | some x => have := (U.hf _ _ hh).1; omega
  refine aS (aR ?_)
  (refine nx (a_box (gN rfl) rfl rfl rfl rfl rfl) (by kernel_rfl) ?_)
  (refine nx (aA (gN rfl) rfl rfl rfl rfl rfl) rfl ?_)
  (refine nx (aA (gN rfl) rfl rfl rfl rfl rfl) rfl ?_)
  show AWp _ _ _ _ _ _ _
  refine aS (aS (aD (by kernel_rfl) (by kernel_rfl) ?_))
  (refine nx (aM (gN rfl) rfl rfl rfl rfl rfl) rfl ?_)
  (refine nx (aNc (gN rfl) rfl rfl rfl rfl rfl) rfl ?_)
  (refine nx (aF (gN rfl) rfl rfl rfl rfl rfl rfl rfl rfl rfl) rfl ?_)
  (refine nx (aLf (gN rfl) rfl rfl rfl rfl rfl rfl rfl rfl rfl rfl rfl rfl rfl) rfl ?_)
  (refine nx (aL (gN rfl) rfl rfl rfl rfl rfl rfl rfl rfl rfl rfl rfl rfl) rfl ?_)
  (refine nx (a_lookKn (gN rfl) rfl rfl rfl rfl rfl rfl rfl rfl rfl (kd_is) (K_kind) (hgk) (sy_keys h) (hno)) rfl ?_)
  (refine nx (aM (gN rfl) rfl rfl rfl rfl rfl) rfl ?_)
  (refine nx (aX (gN rfl) rfl rfl rfl rfl rfl rfl) rfl ?_)
  (refine nx (aX (gN rfl) rfl rfl rfl rfl rfl rfl) rfl ?_)
  (refine nx (aA (gN rfl) rfl rfl rfl rfl rfl) rfl ?_)
  (refine nx (aA (gN rfl) rfl rfl rfl rfl rfl) rfl ?_)
  refine ⟨by kernel_rfl, ?_⟩
  show AWp _ _ _ _ _ _ _
  refine aS (aR ?_)
  (refine nx (aM (gN rfl) rfl rfl rfl rfl rfl) rfl ?_)
  show AWp _ _ _ _ _ _ _
  refine aC rfl (fun hc => by cases hc) (fun hc => aK ?_)
  show AWp _ _ _ _ _ _ _
  refine aS (aR ?_)
  (refine nx (aM (gN rfl) rfl rfl rfl rfl rfl) rfl ?_)
  (refine nx (aNc (gN rfl) rfl rfl rfl rfl rfl) rfl ?_)
  (refine nx (aF (gN rfl) rfl rfl rfl rfl rfl rfl rfl rfl rfl) rfl ?_)
  (refine nx (aF (gN rfl) rfl rfl rfl rfl rfl rfl rfl rfl rfl) rfl ?_)
  (refine nx (aLf (gN rfl) rfl rfl rfl rfl rfl rfl rfl rfl rfl rfl rfl rfl rfl) rfl ?_)
  (refine nx (a_lenM (gN rfl) rfl rfl rfl rfl rfl rfl rfl) rfl ?_)
  (refine nx (aA (gN rfl) rfl rfl rfl rfl rfl) rfl ?_)
  show AWp _ _ _ _ _ _ _
  refine AWp.wk (wk_sub (s' := (0, .bp 350001 0 []) :: (3, .bp 3 0 []) :: (100003, .bx (.row [sv knm, .i (kpt : Int), .b kpr])) :: (8, .val (.i (st.sg.nm.length : Int))) :: nmS st) ⟨rfl, rfl, rfl, rfl, rfl, rfl, rfl, rfl, rfl, rfl, rfl, rfl, rfl, rfl, rfl, trivial⟩) ?_
  by_cases hbig : 200 < st.sg.nm.length
  · have g : decide ((st.sg.nm.length : Int) > 200) = true := by rw [decide_eq_true_eq]; omega
    rw [if_pos (.inl hbig)]
    refine aS (aS (aD (by kernel_rfl) (by kernel_rfl) ?_))
    (refine nx (aM (gN rfl) rfl rfl rfl rfl rfl) rfl ?_)
    (refine nx (a_gtr (gN rfl) rfl rfl rfl rfl rfl rfl) rfl ?_)
    (refine nx (aM (gN rfl) rfl rfl rfl rfl rfl) rfl ?_)
    (refine ⟨_, _, _, a_off (go_off rfl rfl rfl rfl (by first | rfl | assumption | (simp; done) | (simp [*]; done))) rfl rfl rfl, rfl, ?_⟩)
    (refine ⟨_, _, _, a_off (go_off rfl rfl rfl rfl (by first | rfl | assumption | (simp; done) | (simp [*]; done))) rfl rfl rfl, rfl, ?_⟩)
    (refine ⟨_, _, _, a_off (go_off rfl rfl rfl rfl (by first | rfl | assumption | (simp; done) | (simp [*]; done))) rfl rfl rfl, rfl, ?_⟩)
    (refine ⟨_, _, _, a_off (go_off rfl rfl rfl rfl (by first | rfl | assumption | (simp; done) | (simp [*]; done))) rfl rfl rfl, rfl, ?_⟩)
    (refine ⟨_, _, _, a_off (go_off rfl rfl rfl rfl (by first | rfl | assumption | (simp; done) | (simp [*]; done))) rfl rfl rfl, rfl, ?_⟩)
    (refine ⟨_, _, _, a_off (go_off rfl rfl rfl rfl (by first | rfl | assumption | (simp; done) | (simp [*]; done))) rfl rfl rfl, rfl, ?_⟩)
    (refine ⟨_, _, _, a_off (go_off rfl rfl rfl rfl (by first | rfl | assumption | (simp; done) | (simp [*]; done))) rfl rfl rfl, rfl, ?_⟩)
    (refine ⟨_, _, _, a_off (go_off rfl rfl rfl rfl (by first | rfl | assumption | (simp; done) | (simp [*]; done))) rfl rfl rfl, rfl, ?_⟩)
    (refine ⟨_, _, _, aPt (gN rfl) rfl rfl rfl rfl rfl ?hb rfl, rfl, ?_⟩; case hb => (first | rfl | assumption | (simp; done)))
    refine ⟨by kernel_rfl, ?_⟩
    show AWp _ _ _ _ _ _ _
    refine aC rfl (fun hc => ?_) (fun hc => by cases hc)
    refine aS (aR ?_)
    (refine nx (aA (gN rfl) rfl rfl rfl rfl rfl) rfl ?_)
    (refine nx (aA (gN rfl) rfl rfl rfl rfl rfl) rfl ?_)
    show AWp _ _ _ _ _ _ _
    exact aT ⟨.inr rfl, _, Wk.refl _, rfl, rfl, rfl, rfl, rfl, rfl, rfl, rfl, rfl, rfl, rfl, rfl, trivial⟩
  have g : decide ((st.sg.nm.length : Int) > 200) = false := by rw [decide_eq_false_iff_not]; omega
  refine AWp.wk (wk_renF 300001 400000 rfl rfl hUf (by kernel_rfl) (by kernel_rfl) (by kernel_rfl)) ?_
  by_cases hin : knm ∈ st.sg.nm
  · rw [if_pos (.inr hin)]
    rw [decide_eq_true hin] at hco
    refine aS (aS (aD (by kernel_rfl) (by kernel_rfl) ?_))
    (refine nx (aM (gN rfl) rfl rfl rfl rfl rfl) rfl ?_)
    (refine nx (a_gtr (gN rfl) rfl rfl rfl rfl rfl rfl) rfl ?_)
    (refine nx (aM (gN rfl) rfl rfl rfl rfl rfl) rfl ?_)
    (refine nx (aM (gd_on rfl rfl rfl rfl (by first | rfl | assumption | (simp; done))) rfl rfl rfl rfl rfl) rfl ?_)
    (refine nx (aNc (gd_on rfl rfl rfl rfl (by first | rfl | assumption | (simp; done))) rfl rfl rfl rfl rfl) rfl ?_)
    (refine nx (aF (gd_on rfl rfl rfl rfl (by first | rfl | assumption | (simp; done))) rfl rfl rfl rfl rfl rfl rfl rfl rfl) rfl ?_)
    (refine nx (aF (gd_on rfl rfl rfl rfl (by first | rfl | assumption | (simp; done))) rfl rfl rfl rfl rfl rfl rfl rfl rfl) rfl ?_)
    (refine nx (aLf (gd_on rfl rfl rfl rfl (by first | rfl | assumption | (simp; done))) rfl rfl rfl rfl rfl rfl rfl rfl rfl rfl rfl rfl rfl) rfl ?_)
    (refine nx (aF (gd_on rfl rfl rfl rfl (by first | rfl | assumption | (simp; done))) rfl rfl rfl rfl rfl rfl rfl rfl rfl) rfl ?_)
    (refine nx (aLb (gd_on rfl rfl rfl rfl (by first | rfl | assumption | (simp; done))) rfl rfl rfl rfl rfl rfl rfl rfl rfl rfl rfl rfl) rfl ?_)
    (refine nx (a_callO (gd_on rfl rfl rfl rfl (by first | rfl | assumption | (simp; done))) rfl rfl rfl rfl rfl (hco) (by repeat (first | exact trivial | refine ⟨rfl, ?_⟩)) (by first | rfl | kernel_rfl) (by first | rfl | kernel_rfl) (by first | rfl | kernel_rfl) (by first | rfl | kernel_rfl) (hnb_of (by first | rfl | kernel_rfl))) rfl ?_)
    (refine ⟨_, _, _, aPf (gN rfl) rfl rfl rfl rfl rfl ?hb rfl, rfl, ?_⟩; case hb => (first | rfl | assumption | (simp; done)))
    refine ⟨by kernel_rfl, ?_⟩
    show AWp _ _ _ _ _ _ _
    refine aC rfl (fun hc => ?_) (fun hc => by cases hc)
    refine aS (aR ?_)
    (refine nx (aA (gN rfl) rfl rfl rfl rfl rfl) rfl ?_)
    (refine nx (aA (gN rfl) rfl rfl rfl rfl rfl) rfl ?_)
    show AWp _ _ _ _ _ _ _
    exact aT ⟨.inr rfl, _, (wk_sub (s' := [(4, .val (.i 0)), (5, .val (.b false)), (450001, .obj), (35500100, .sl 400000 0 st.sg.nm.length 1), (35500101, .sl 300002 0 st.sg.ar.length 1), (35500102, .sl 300003 0 st.sg.pr.length 1), (35500103, .mref 300004), (35500104, .mref 300005), (400000, .mrow 9 1 (st.sg.nm.map sv)), (300002, .mrow 3 1 (st.sg.ar.map iv)), (300003, .mrow 4 1 (st.sg.pr.map bv)), (300004, .mp (st.sy.map syv)), (300005, .mp (st.vr.map vrv))]) ⟨rfl, rfl, rfl, rfl, rfl, rfl, rfl, rfl, rfl, rfl, rfl, rfl, rfl, trivial⟩).trans (wk_renF 400000 300001 rfl rfl hUb (by kernel_rfl) (by kernel_rfl) (by kernel_rfl)), rfl, rfl, rfl, rfl, rfl, rfl, rfl, rfl, rfl, rfl, rfl, rfl, trivial⟩
  rw [decide_eq_false hin] at hco
  rw [if_neg (by rintro (e | e); exact hbig e; exact hin e)]
  refine aS (aS (aD (by kernel_rfl) (by kernel_rfl) ?_))
  (refine nx (aM (gN rfl) rfl rfl rfl rfl rfl) rfl ?_)
  (refine nx (a_gtr (gN rfl) rfl rfl rfl rfl rfl rfl) rfl ?_)
  (refine nx (aM (gN rfl) rfl rfl rfl rfl rfl) rfl ?_)
  (refine nx (aM (gd_on rfl rfl rfl rfl (by first | rfl | assumption | (simp; done))) rfl rfl rfl rfl rfl) rfl ?_)
  (refine nx (aNc (gd_on rfl rfl rfl rfl (by first | rfl | assumption | (simp; done))) rfl rfl rfl rfl rfl) rfl ?_)
  (refine nx (aF (gd_on rfl rfl rfl rfl (by first | rfl | assumption | (simp; done))) rfl rfl rfl rfl rfl rfl rfl rfl rfl) rfl ?_)
  (refine nx (aF (gd_on rfl rfl rfl rfl (by first | rfl | assumption | (simp; done))) rfl rfl rfl rfl rfl rfl rfl rfl rfl) rfl ?_)
  (refine nx (aLf (gd_on rfl rfl rfl rfl (by first | rfl | assumption | (simp; done))) rfl rfl rfl rfl rfl rfl rfl rfl rfl rfl rfl rfl rfl) rfl ?_)
  (refine nx (aF (gd_on rfl rfl rfl rfl (by first | rfl | assumption | (simp; done))) rfl rfl rfl rfl rfl rfl rfl rfl rfl) rfl ?_)
  (refine nx (aLb (gd_on rfl rfl rfl rfl (by first | rfl | assumption | (simp; done))) rfl rfl rfl rfl rfl rfl rfl rfl rfl rfl rfl rfl) rfl ?_)
  (refine nx (a_callO (gd_on rfl rfl rfl rfl (by first | rfl | assumption | (simp; done))) rfl rfl rfl rfl rfl (hco) (by repeat (first | exact trivial | refine ⟨rfl, ?_⟩)) (by first | rfl | kernel_rfl) (by first | rfl | kernel_rfl) (by first | rfl | kernel_rfl) (by first | rfl | kernel_rfl) (hnb_of (by first | rfl | kernel_rfl))) rfl ?_)
  (refine ⟨_, _, _, aPf (gN rfl) rfl rfl rfl rfl rfl ?hb rfl, rfl, ?_⟩; case hb => (first | rfl | assumption | (simp; done)))
  refine ⟨by kernel_rfl, ?_⟩
  show AWp _ _ _ _ _ _ _
  refine aC rfl (fun hc => by cases hc) (fun hc => aK ?_)
  show AWp _ _ _ _ _ _ _
  refine AWp.wk ((wk_sub (s' := [(0, .bp 350001 0 []), (3, .bp 3 0 []), (100003, .bx (.row [sv knm, .i (kpt : Int), .b kpr])), (8, .val (.i (st.sg.nm.length : Int))), (450001, .obj), (35500100, .sl 400000 0 st.sg.nm.length 1), (35500101, .sl 300002 0 st.sg.ar.length 1), (35500102, .sl 300003 0 st.sg.pr.length 1), (35500103, .mref 300004), (35500104, .mref 300005), (400000, .mrow 9 1 (st.sg.nm.map sv)), (300002, .mrow 3 1 (st.sg.ar.map iv)), (300003, .mrow 4 1 (st.sg.pr.map bv)), (300004, .mp (st.sy.map syv)), (300005, .mp (st.vr.map vrv))]) ⟨rfl, rfl, rfl, rfl, rfl, rfl, rfl, rfl, rfl, rfl, rfl, rfl, rfl, rfl, rfl, trivial⟩).trans (wk_renF 400000 300001 rfl rfl hUb (by kernel_rfl) (by kernel_rfl) (by kernel_rfl))) ?_
  have z1 := svs_size st.sg.nm
  have z2 := ivs_size st.sg.ar
  have z3 := bvs_size st.sg.pr
  have m1 : (st.sg.nm.map sv).length = st.sg.nm.length := List.length_map ..
  have m2 : (st.sg.ar.map iv).length = st.sg.ar.length := List.length_map ..
  have m3 : (st.sg.pr.map bv).length = st.sg.pr.length := List.length_map ..
  have e2 := h.la
  have e3 := h.lp
  refine aS (aD (by kernel_rfl) (by kernel_rfl) ?_)
  (refine nx (aM (gN rfl) rfl rfl rfl rfl rfl) rfl ?_)
  (refine nx (aNc (gN rfl) rfl rfl rfl rfl rfl) rfl ?_)
  (refine nx (aF (gN rfl) rfl rfl rfl rfl rfl rfl rfl rfl rfl) rfl ?_)
  (refine nx (aLf (gN rfl) rfl rfl rfl rfl rfl rfl rfl rfl rfl rfl rfl rfl rfl) rfl ?_)
  (refine nx (aL (gN rfl) rfl rfl rfl rfl rfl rfl rfl rfl rfl rfl rfl rfl) rfl ?_)
  (refine nx (aM (gN rfl) rfl rfl rfl rfl rfl) rfl ?_)
  (refine nx (a_putK (gN rfl) rfl rfl rfl rfl rfl rfl rfl (kd_is) (K_kind) (hgk) (sy_keys h) (hno)) rfl ?_)
  refine ⟨by kernel_rfl, ?_⟩
  show AWp _ _ _ _ _ _ _
  refine aS (aD (by kernel_rfl) (by kernel_rfl) ?_)
  (refine nx (aM (gN rfl) rfl rfl rfl rfl rfl) rfl ?_)
  (refine nx (aM (gN rfl) rfl rfl rfl rfl rfl) rfl ?_)
  (refine nx (aNc (gN rfl) rfl rfl rfl rfl rfl) rfl ?_)
  (refine nx (aF (gN rfl) rfl rfl rfl rfl rfl rfl rfl rfl rfl) rfl ?_)
  (refine nx (aF (gN rfl) rfl rfl rfl rfl rfl rfl rfl rfl rfl) rfl ?_)
  (refine nx (aLf (gN rfl) rfl rfl rfl rfl rfl rfl rfl rfl rfl rfl rfl rfl rfl) rfl ?_)
  (refine nx (aF (gN rfl) rfl rfl rfl rfl rfl rfl rfl rfl rfl) rfl ?_)
  (refine nx (aLb (gN rfl) rfl rfl rfl rfl rfl rfl rfl rfl rfl rfl rfl rfl) rfl ?_)
  (refine nx (a_call (gN rfl) rfl rfl rfl rfl rfl (sClone_abs w knm (by omega))) rfl ?_)
  (refine nx (a_bslice (gN rfl) rfl rfl rfl rfl rfl rfl rfl rfl rfl rfl rfl rfl rfl) rfl ?_)
  (refine nx (a_appM 300054 (gN rfl) rfl rfl rfl rfl rfl rfl rfl rfl rfl rfl rfl rfl rfl (by first | rfl | omega | (simp only [List.length_set, List.length_map, List.length_append, List.length_cons, List.length_nil] <;> omega) | (simp <;> omega)) (by first | assumption | exact sZ rfl | exact Tm.size_all _ | exact Bd.size_all _ | exact ints_size _ | exact bys_size _ | exact Lt.size_all _) (by first | omega | (simp only [List.length_map, List.length_append, List.length_cons, List.length_nil] <;> omega) | (simp <;> omega))) (by kernel_rfl) ?_)
  (refine nx (aNc (gN rfl) rfl rfl rfl rfl rfl) rfl ?_)
  (refine nx (aF (gN rfl) rfl rfl rfl rfl rfl rfl rfl rfl rfl) rfl ?_)
  (refine nx (aF (gN rfl) rfl rfl rfl rfl rfl rfl rfl rfl rfl) rfl ?_)
  (refine nx (a_store_fld (gN rfl) rfl rfl rfl rfl rfl rfl rfl rfl rfl rfl rfl rfl) rfl ?_)
  refine ⟨by kernel_rfl, ?_⟩
  show AWp _ _ _ _ _ _ _
  refine AWp.wk ((wk_sub (s' := [(0, .bp 350001 0 []), (3, .bp 3 0 []), (100003, .bx (.row [sv knm, .i (kpt : Int), .b kpr])), (8, .val (.i (st.sg.nm.length : Int))), (450001, .obj), (35500100, .sl 300054 0 (st.sg.nm ++ [knm]).length 1), (35500101, .sl 300002 0 st.sg.ar.length 1), (35500102, .sl 300003 0 st.sg.pr.length 1), (35500103, .mref 300004), (35500104, .mref 300005), (300054, .mrow 9 1 ((st.sg.nm ++ [knm]).map sv)), (300002, .mrow 3 1 (st.sg.ar.map iv)), (300003, .mrow 4 1 (st.sg.pr.map bv)), (300004, .mp ((st.sy ++ [((knm, kpt, kpr), st.sg.nm.length)]).map syv)), (300005, .mp (st.vr.map vrv))]) ⟨rfl, rfl, rfl, rfl, rfl, by rw [List.length_append, ← m1]; rfl, rfl, rfl, rfl, rfl, by rw [List.map_append]; rfl, rfl, rfl, by rw [List.map_append (l₁ := st.sy)]; rfl, rfl, trivial⟩).trans (wk_ren 300054 300001 rfl rfl (by kernel_rfl) (by kernel_rfl))) ?_
  refine aS (aD (by kernel_rfl) (by kernel_rfl) ?_)
  (refine nx (aM (gN rfl) rfl rfl rfl rfl rfl) rfl ?_)
  (refine nx (aM (gN rfl) rfl rfl rfl rfl rfl) rfl ?_)
  (refine nx (aNc (gN rfl) rfl rfl rfl rfl rfl) rfl ?_)
  (refine nx (aF (gN rfl) rfl rfl rfl rfl rfl rfl rfl rfl rfl) rfl ?_)
  (refine nx (aF (gN rfl) rfl rfl rfl rfl rfl rfl rfl rfl rfl) rfl ?_)
  (refine nx (aLf (gN rfl) rfl rfl rfl rfl rfl rfl rfl rfl rfl rfl rfl rfl rfl) rfl ?_)
  (refine nx (aF (gN rfl) rfl rfl rfl rfl rfl rfl rfl rfl rfl) rfl ?_)
  (refine nx (aLb (gN rfl) rfl rfl rfl rfl rfl rfl rfl rfl rfl rfl rfl rfl) rfl ?_)
  (refine nx (a_bslice (gN rfl) rfl rfl rfl rfl rfl rfl rfl rfl rfl rfl rfl rfl rfl) rfl ?_)
  (refine nx (a_appM 300067 (gN rfl) rfl rfl rfl rfl rfl rfl rfl rfl rfl rfl rfl rfl rfl (by first | rfl | omega | (simp only [List.length_set, List.length_map, List.length_append, List.length_cons, List.length_nil] <;> omega) | (simp <;> omega)) (by first | assumption | exact sZ rfl | exact Tm.size_all _ | exact Bd.size_all _ | exact ints_size _ | exact bys_size _ | exact Lt.size_all _) (by first | omega | (simp only [List.length_map, List.length_append, List.length_cons, List.length_nil] <;> omega) | (simp <;> omega))) (by kernel_rfl) ?_)
  (refine nx (aNc (gN rfl) rfl rfl rfl rfl rfl) rfl ?_)
  (refine nx (aF (gN rfl) rfl rfl rfl rfl rfl rfl rfl rfl rfl) rfl ?_)
  (refine nx (aF (gN rfl) rfl rfl rfl rfl rfl rfl rfl rfl rfl) rfl ?_)
  (refine nx (a_store_fld (gN rfl) rfl rfl rfl rfl rfl rfl rfl rfl rfl rfl rfl rfl) rfl ?_)
  refine ⟨by kernel_rfl, ?_⟩
  show AWp _ _ _ _ _ _ _
  refine AWp.wk ((wk_sub (s' := [(0, .bp 350001 0 []), (3, .bp 3 0 []), (100003, .bx (.row [sv knm, .i (kpt : Int), .b kpr])), (8, .val (.i (st.sg.nm.length : Int))), (450001, .obj), (35500100, .sl 300001 0 (st.sg.nm ++ [knm]).length 1), (35500101, .sl 300067 0 (st.sg.ar ++ [kpt]).length 1), (35500102, .sl 300003 0 st.sg.pr.length 1), (35500103, .mref 300004), (35500104, .mref 300005), (300001, .mrow 9 1 ((st.sg.nm ++ [knm]).map sv)), (300067, .mrow 3 1 ((st.sg.ar ++ [kpt]).map iv)), (300003, .mrow 4 1 (st.sg.pr.map bv)), (300004, .mp ((st.sy ++ [((knm, kpt, kpr), st.sg.nm.length)]).map syv)), (300005, .mp (st.vr.map vrv))]) ⟨rfl, rfl, rfl, rfl, rfl, rfl, by rw [@List.length_append _ st.sg.ar [kpt], ← m2]; rfl, rfl, rfl, rfl, rfl, by rw [List.map_append (l₁ := st.sg.ar)]; rfl, rfl, rfl, rfl, trivial⟩).trans (wk_ren 300067 300002 rfl rfl (by kernel_rfl) (by kernel_rfl))) ?_
  refine aS (aD (by kernel_rfl) (by kernel_rfl) ?_)
  (refine nx (aM (gN rfl) rfl rfl rfl rfl rfl) rfl ?_)
  (refine nx (aM (gN rfl) rfl rfl rfl rfl rfl) rfl ?_)
  (refine nx (aNc (gN rfl) rfl rfl rfl rfl rfl) rfl ?_)
  (refine nx (aF (gN rfl) rfl rfl rfl rfl rfl rfl rfl rfl rfl) rfl ?_)
  (refine nx (aF (gN rfl) rfl rfl rfl rfl rfl rfl rfl rfl rfl) rfl ?_)
  (refine nx (aLf (gN rfl) rfl rfl rfl rfl rfl rfl rfl rfl rfl rfl rfl rfl rfl) rfl ?_)
  (refine nx (aF (gN rfl) rfl rfl rfl rfl rfl rfl rfl rfl rfl) rfl ?_)
  (refine nx (aLb (gN rfl) rfl rfl rfl rfl rfl rfl rfl rfl rfl rfl rfl rfl) rfl ?_)
  (refine nx (a_bslice (gN rfl) rfl rfl rfl rfl rfl rfl rfl rfl rfl rfl rfl rfl rfl) rfl ?_)
  (refine nx (a_appM 300080 (gN rfl) rfl rfl rfl rfl rfl rfl rfl rfl rfl rfl rfl rfl rfl (by first | rfl | omega | (simp only [List.length_set, List.length_map, List.length_append, List.length_cons, List.length_nil] <;> omega) | (simp <;> omega)) (by first | assumption | exact sZ rfl | exact Tm.size_all _ | exact Bd.size_all _ | exact ints_size _ | exact bys_size _ | exact Lt.size_all _) (by first | omega | (simp only [List.length_map, List.length_append, List.length_cons, List.length_nil] <;> omega) | (simp <;> omega))) (by kernel_rfl) ?_)
  (refine nx (aNc (gN rfl) rfl rfl rfl rfl rfl) rfl ?_)
  (refine nx (aF (gN rfl) rfl rfl rfl rfl rfl rfl rfl rfl rfl) rfl ?_)
  (refine nx (aF (gN rfl) rfl rfl rfl rfl rfl rfl rfl rfl rfl) rfl ?_)
  (refine nx (a_store_fld (gN rfl) rfl rfl rfl rfl rfl rfl rfl rfl rfl rfl rfl rfl) rfl ?_)
  refine ⟨by kernel_rfl, ?_⟩
  show AWp _ _ _ _ _ _ _
  refine aS (aR ?_)
  (refine nx (aM (gN rfl) rfl rfl rfl rfl rfl) rfl ?_)
  (refine nx (aA (gN rfl) rfl rfl rfl rfl rfl) rfl ?_)
  (refine nx (aA (gN rfl) rfl rfl rfl rfl rfl) rfl ?_)
  show AWp _ _ _ _ _ _ _
  exact aT ⟨.inr rfl, _, (wk_sub (s' := [(4, .val (.i (st.sg.nm.length : Int))), (5, .val (.b true)), (450001, .obj), (35500100, .sl 300001 0 (st.sg.nm ++ [knm]).length 1), (35500101, .sl 300002 0 (st.sg.ar ++ [kpt]).length 1), (35500102, .sl 300080 0 (st.sg.pr ++ [kpr]).length 1), (35500103, .mref 300004), (35500104, .mref 300005), (300001, .mrow 9 1 ((st.sg.nm ++ [knm]).map sv)), (300002, .mrow 3 1 ((st.sg.ar ++ [kpt]).map iv)), (300080, .mrow 4 1 ((st.sg.pr ++ [kpr]).map bv)), (300004, .mp ((st.sy ++ [((knm, kpt, kpr), st.sg.nm.length)]).map syv)), (300005, .mp (st.vr.map vrv))]) ⟨rfl, rfl, rfl, rfl, rfl, by rw [@List.length_append _ st.sg.pr [kpr], ← m3]; rfl, rfl, rfl, rfl, rfl, by rw [List.map_append (l₁ := st.sg.pr)]; rfl, rfl, rfl, trivial⟩).trans (wk_ren 300080 300003 rfl rfl (by kernel_rfl) (by kernel_rfl)), rfl, rfl, rfl, rfl, rfl, rfl, rfl, rfl, rfl, rfl, rfl, rfl, trivial⟩
end Go.Proofs.YtglbohajmccehaaDoor

-- @STR@
namespace Go.Proofs.YtglbohajmccehaaDoor
open Go.RowKit
set_option linter.unusedVariables false
set_option linter.unusedSimpArgs false
set_option maxRecDepth 100000

theorem rdX_len : ∀ (n d : Nat) (t : Tkn), (∀ r, rdX n d t none = some r → r.2.2.2.len ≤ t.len ∧ (r.2.2.1 = true → r.2.2.2.len < t.len)) ∧ ∀ acc r, rdX n d t (some acc) = some r → r.2.2.2.len ≤ t.len
  | 0, d, t => ⟨fun r h => by simp [rdX] at h, fun acc r h => by simp [rdX] at h⟩
  | n + 1, d, t => by
    constructor
    · intro r h
      obtain ⟨h1, h2⟩ := nameT_len t
      have h3 := takeT_len (nameT t).2.2 [40]
      rw [rdX] at h
      split at h
      · cases h; exact ⟨Nat.le_refl _, fun h => by cases h⟩
      · split at h
        · cases h; exact ⟨h1, fun h => h2 h⟩
        · rename_i hok
          have hok : (nameT t).2.1 = true := by
            cases hx : (nameT t).2.1 with
            | true => rfl
            | false => rw [hx] at hok; simp at hok
          have h2 := h2 hok
          split at h
          · split at h
            · cases h
            · rename_i q hq
              have h4 := (rdX_len n (d + 1) (takeT (nameT t).2.2 [40]).2).2 [] q hq
              have h5 := takeT_len q.2.2.2 [41]
              split at h
              · cases h; exact ⟨by show (takeT q.2.2.2 [41]).2.len ≤ _; omega, fun _ => by show (takeT q.2.2.2 [41]).2.len < _; omega⟩
              · cases h; exact ⟨by show q.2.2.2.len ≤ _; omega, fun h => by cases h⟩
          · cases h; exact ⟨by show (takeT (nameT t).2.2 [40]).2.len ≤ _; omega, fun _ => by show (takeT (nameT t).2.2 [40]).2.len < _; omega⟩
    · intro acc r h
      rw [rdX] at h
      split at h
      · cases h
      · rename_i q hq
        obtain ⟨h1, h2⟩ := (rdX_len n d t).1 q hq
        have h3 := takeT_len q.2.2.2 [44]
        split at h
        · split at h
          · have := (rdX_len n d (takeT q.2.2.2 [44]).2).2 _ r h
            omega
          · cases h; show (takeT q.2.2.2 [44]).2.len ≤ _; omega
        · cases h; exact h1
noncomputable abbrev tkS (t : Tkn) : AS := [(450001, .obj), (35500100, .val (sv t.nx)), (35500101, .val (sv t.rs))]
-- 
theorem move_abs (t : Tkn) (ht : t.rs.length ≤ 1000000) : AFunO Tryd.prog 32 (tkS t) [.bp 350001 0 []] (.tup []) (tkS (mvT t.rs)) := by
  obtain ⟨b, hb⟩ : ∃ b, b = bh t.rs := ⟨_, rfl⟩
  have h1 := (bh_eq t.rs).2
  have h2 := tkSz_le (bh t.rs)
  have hmv : mvT t.rs = ⟨b.take (tkSz b), b.drop (tkSz b)⟩ := by rw [hb]; rfl
  rw [← hb] at h1 h2
  rw [hmv]
  obtain ⟨k, hk⟩ : ∃ k, k = tkSz b := ⟨_, rfl⟩
  have hz := fun w => tkSz_abs w b (by omega)
  rw [← hk] at h2 hz ⊢
  have hbh := fun w => bh_abs w t.rs (by omega)
  rw [← hb] at hbh
  refine afunO_of Tryd.func32 Tryd.ntmps32 rfl rfl rfl rfl rfl rfl ?_
  intro w U hU
  refine aS (aR ?_)
  (refine nx (aM (gN rfl) rfl rfl rfl rfl rfl) rfl ?_)
  (refine nx (aNc (gN rfl) rfl rfl rfl rfl rfl) rfl ?_)
  (refine nx (aF (gN rfl) rfl rfl rfl rfl rfl rfl rfl rfl rfl) rfl ?_)
  (refine nx (aLf (gN rfl) rfl rfl rfl rfl rfl rfl rfl rfl rfl rfl rfl rfl rfl) rfl ?_)
  (refine nx (a_call (gN rfl) rfl rfl rfl rfl rfl (hbh w)) rfl ?_)
  (refine nx (aA (gN rfl) rfl rfl rfl rfl rfl) rfl ?_)
  show AWp _ _ _ _ _ _ _
  refine aS (aR ?_)
  (refine nx (aM (gN rfl) rfl rfl rfl rfl rfl) rfl ?_)
  (refine nx (a_call (gN rfl) rfl rfl rfl rfl rfl (hz w)) rfl ?_)
  (refine nx (aA (gN rfl) rfl rfl rfl rfl rfl) rfl ?_)
  show AWp _ _ _ _ _ _ _
  refine aD (by kernel_rfl) (by kernel_rfl) ?_
  (refine nx (aM (gN rfl) rfl rfl rfl rfl rfl) rfl ?_)
  (refine nx (aM (gN rfl) rfl rfl rfl rfl rfl) rfl ?_)
  (refine nx (aM (gN rfl) rfl rfl rfl rfl rfl) rfl ?_)
  (refine nx (aM (gN rfl) rfl rfl rfl rfl rfl) rfl ?_)
  (refine nx (a_supto (k) (gN rfl) rfl rfl rfl rfl rfl rfl rfl (by first | rfl | omega | (simp only [List.length_set, List.length_map, List.length_append, List.length_cons, List.length_nil] <;> omega) | (simp <;> omega)) (by first | rfl | omega | (simp only [List.length_set, List.length_map, List.length_append, List.length_cons, List.length_nil] <;> omega) | (simp <;> omega))) rfl ?_)
  (refine nx (aM (gN rfl) rfl rfl rfl rfl rfl) rfl ?_)
  (refine nx (aM (gN rfl) rfl rfl rfl rfl rfl) rfl ?_)
  (refine nx (a_sfrom (k) (gN rfl) rfl rfl rfl rfl rfl rfl rfl (by first | rfl | omega | (simp only [List.length_set, List.length_map, List.length_append, List.length_cons, List.length_nil] <;> omega) | (simp <;> omega)) (by first | rfl | omega | (simp only [List.length_set, List.length_map, List.length_append, List.length_cons, List.length_nil] <;> omega) | (simp <;> omega))) rfl ?_)
  (refine nx (aNc (gN rfl) rfl rfl rfl rfl rfl) rfl ?_)
  (refine nx (aF (gN rfl) rfl rfl rfl rfl rfl rfl rfl rfl rfl) rfl ?_)
  (refine nx (a_store_fld (gN rfl) rfl rfl rfl rfl rfl rfl rfl rfl rfl rfl rfl rfl) rfl ?_)
  (refine nx (aNc (gN rfl) rfl rfl rfl rfl rfl) rfl ?_)
  (refine nx (aF (gN rfl) rfl rfl rfl rfl rfl rfl rfl rfl rfl) rfl ?_)
  (refine nx (a_store_fld (gN rfl) rfl rfl rfl rfl rfl rfl rfl rfl rfl rfl rfl rfl) rfl ?_)
  refine ⟨by kernel_rfl, ?_⟩
  exact ⟨.inl rfl, _, Wk.refl _, rfl, rfl, rfl, rfl, trivial⟩
-- 
theorem take_abs (t : Tkn) (s : By) (ht : t.rs.length ≤ 1000000) : AFunO Tryd.prog 24 (tkS t) [.bp 350001 0 [], .val (sv s)] (.val (.b (takeT t s).1)) (tkS (takeT t s).2) := by
  unfold takeT
  by_cases h : t.nx = s
  · rw [if_pos h]
    refine afunO_of Tryd.func24 Tryd.ntmps24 rfl rfl rfl rfl rfl rfl ?_
    intro w U hU
    have g : (!decide (t.nx = s)) = false := by rw [decide_eq_true h]; rfl
    refine aS (aR ?_)
    (refine nx (aA (gN rfl) rfl rfl rfl rfl rfl) rfl ?_)
    show AWp _ _ _ _ _ _ _
    refine aS (aS (aR ?_))
    (refine nx (aM (gN rfl) rfl rfl rfl rfl rfl) rfl ?_)
    (refine nx (aNc (gN rfl) rfl rfl rfl rfl rfl) rfl ?_)
    (refine nx (aF (gN rfl) rfl rfl rfl rfl rfl rfl rfl rfl rfl) rfl ?_)
    (refine nx (aLf (gN rfl) rfl rfl rfl rfl rfl rfl rfl rfl rfl rfl rfl rfl rfl) rfl ?_)
    (refine nx (aM (gN rfl) rfl rfl rfl rfl rfl) rfl ?_)
    (refine nx (a_sneq (gN rfl) rfl rfl rfl rfl rfl rfl rfl) rfl ?_)
    show AWp _ _ _ _ _ _ _
    refine aC rfl (fun hc => by rw [g] at hc; cases hc) (fun hc => aK ?_)
    show AWp _ _ _ _ _ _ _
    refine aS (aR ?_)
    (refine nx (aM (gN rfl) rfl rfl rfl rfl rfl) rfl ?_)
    (refine nx (a_callO (gN rfl) rfl rfl rfl rfl rfl (move_abs t ht) (by repeat (first | exact trivial | refine ⟨rfl, ?_⟩)) (by first | rfl | kernel_rfl) (by first | rfl | kernel_rfl) (by first | rfl | kernel_rfl) (by first | rfl | kernel_rfl) (hnb_of (by first | rfl | kernel_rfl))) rfl ?_)
    show AWp _ _ _ _ _ _ _
    refine aS (aR ?_)
    (refine nx (aA (gN rfl) rfl rfl rfl rfl rfl) rfl ?_)
    show AWp _ _ _ _ _ _ _
    exact aT ⟨.inr rfl, _, Wk.refl _, rfl, rfl, rfl, rfl, trivial⟩
  · rw [if_neg h]
    refine afunO_of Tryd.func24 Tryd.ntmps24 rfl rfl rfl rfl rfl rfl ?_
    intro w U hU
    have g : (!decide (t.nx = s)) = true := by rw [decide_eq_false h]; rfl
    refine aS (aR ?_)
    (refine nx (aA (gN rfl) rfl rfl rfl rfl rfl) rfl ?_)
    show AWp _ _ _ _ _ _ _
    refine aS (aS (aR ?_))
    (refine nx (aM (gN rfl) rfl rfl rfl rfl rfl) rfl ?_)
    (refine nx (aNc (gN rfl) rfl rfl rfl rfl rfl) rfl ?_)
    (refine nx (aF (gN rfl) rfl rfl rfl rfl rfl rfl rfl rfl rfl) rfl ?_)
    (refine nx (aLf (gN rfl) rfl rfl rfl rfl rfl rfl rfl rfl rfl rfl rfl rfl rfl) rfl ?_)
    (refine nx (aM (gN rfl) rfl rfl rfl rfl rfl) rfl ?_)
    (refine nx (a_sneq (gN rfl) rfl rfl rfl rfl rfl rfl rfl) rfl ?_)
    show AWp _ _ _ _ _ _ _
    refine aC rfl (fun hc => ?_) (fun hc => by rw [g] at hc; cases hc)
    refine aS (aR ?_)
    (refine nx (aA (gN rfl) rfl rfl rfl rfl rfl) rfl ?_)
    show AWp _ _ _ _ _ _ _
    exact aT ⟨.inr rfl, _, Wk.refl _, rfl, rfl, rfl, rfl, trivial⟩
-- 
theorem takeN_abs (t : Tkn) (ht : t.rs.length ≤ 1000000) : AFunO Tryd.prog 49 (tkS t) [.bp 350001 0 []] (.tup [sv (nameT t).1, .b (nameT t).2.1]) (tkS (nameT t).2.2) := by
  have no : ∀ (w : World) (U : UX), isNmL t.nx = false → nameT t = ([], false, t) := fun _ _ h => by unfold nameT; rw [h]; rfl
  by_cases h0 : t.nx = []
  · have hn : nameT t = ([], false, t) := by unfold nameT isNmL; rw [h0]; rfl
    rw [hn]
    have g : decide (t.nx = []) = true := decide_eq_true h0
    refine afunO_of Tryd.func49 Tryd.ntmps49 rfl rfl rfl rfl rfl rfl ?_
    intro w U hU
    refine aS (aR ?_)
    (refine nx (aA (gN rfl) rfl rfl rfl rfl rfl) rfl ?_)
    (refine nx (aA (gN rfl) rfl rfl rfl rfl rfl) rfl ?_)
    show AWp _ _ _ _ _ _ _
    refine aS (aR ?_)
    (refine nx (aM (gN rfl) rfl rfl rfl rfl rfl) rfl ?_)
    (refine nx (aNc (gN rfl) rfl rfl rfl rfl rfl) rfl ?_)
    (refine nx (aF (gN rfl) rfl rfl rfl rfl rfl rfl rfl rfl rfl) rfl ?_)
    (refine nx (aLf (gN rfl) rfl rfl rfl rfl rfl rfl rfl rfl rfl rfl rfl rfl rfl) rfl ?_)
    (refine nx (aA (gN rfl) rfl rfl rfl rfl rfl) rfl ?_)
    show AWp _ _ _ _ _ _ _
    refine aS (aS (aR ?_))
    (refine nx (aM (gN rfl) rfl rfl rfl rfl rfl) rfl ?_)
    (refine nx (a_seql (gN rfl) rfl rfl rfl rfl rfl rfl rfl) rfl ?_)
    (refine nx (aM (gN rfl) rfl rfl rfl rfl rfl) rfl ?_)
    (refine ⟨_, _, _, a_offt (go_off rfl rfl rfl rfl (by first | rfl | assumption | (simp; done) | (simp [*]; done))) rfl rfl rfl, rfl, ?_⟩)
    (refine ⟨_, _, _, a_offt (go_off rfl rfl rfl rfl (by first | rfl | assumption | (simp; done) | (simp [*]; done))) rfl rfl rfl, rfl, ?_⟩)
    (refine ⟨_, _, _, a_offt (go_off rfl rfl rfl rfl (by first | rfl | assumption | (simp; done) | (simp [*]; done))) rfl rfl rfl, rfl, ?_⟩)
    (refine ⟨_, _, _, a_offt (go_off rfl rfl rfl rfl (by first | rfl | assumption | (simp; done) | (simp [*]; done))) rfl rfl rfl, rfl, ?_⟩)
    (refine ⟨_, _, _, a_offt (go_off_t rfl rfl rfl rfl) rfl rfl rfl, rfl, ?_⟩)
    (refine ⟨_, _, _, a_offt (go_off_t rfl rfl rfl rfl) rfl rfl rfl, rfl, ?_⟩)
    (refine ⟨_, _, _, a_offt (go_off_t rfl rfl rfl rfl) rfl rfl rfl, rfl, ?_⟩)
    (refine ⟨_, _, _, a_offt (go_off rfl rfl rfl rfl (by first | rfl | assumption | (simp; done) | (simp [*]; done))) rfl rfl rfl, rfl, ?_⟩)
    (refine ⟨_, _, _, aPt (gN rfl) rfl rfl rfl rfl rfl ?hb rfl, rfl, ?_⟩; case hb => (first | rfl | assumption | (simp; done)))
    show AWp _ _ _ _ _ _ _
    refine aC rfl (fun hc => ?_) (fun hc => by cases hc)
    refine aS (aR ?_)
    (refine nx (aA (gN rfl) rfl rfl rfl rfl rfl) rfl ?_)
    (refine nx (aA (gN rfl) rfl rfl rfl rfl rfl) rfl ?_)
    show AWp _ _ _ _ _ _ _
    exact aT ⟨.inr rfl, _, Wk.refl _, rfl, rfl, rfl, rfl, trivial⟩
  have g : decide (t.nx = []) = false := decide_eq_false h0
  cases h1 : isSmL t.nx with
  | true =>
    have hn : nameT t = (t.nx, true, mvT t.rs) := by unfold nameT isNmL; rw [g, h1]; rfl
    rw [hn]
    refine afunO_of Tryd.func49 Tryd.ntmps49 rfl rfl rfl rfl rfl rfl ?_
    intro w U hU
    have c1 := isSm_abs w t.nx h0
    rw [h1] at c1
    refine aS (aR ?_)
    (refine nx (aA (gN rfl) rfl rfl rfl rfl rfl) rfl ?_)
    (refine nx (aA (gN rfl) rfl rfl rfl rfl rfl) rfl ?_)
    show AWp _ _ _ _ _ _ _
    refine aS (aR ?_)
    (refine nx (aM (gN rfl) rfl rfl rfl rfl rfl) rfl ?_)
    (refine nx (aNc (gN rfl) rfl rfl rfl rfl rfl) rfl ?_)
    (refine nx (aF (gN rfl) rfl rfl rfl rfl rfl rfl rfl rfl rfl) rfl ?_)
    (refine nx (aLf (gN rfl) rfl rfl rfl rfl rfl rfl rfl rfl rfl rfl rfl rfl rfl) rfl ?_)
    (refine nx (aA (gN rfl) rfl rfl rfl rfl rfl) rfl ?_)
    show AWp _ _ _ _ _ _ _
    refine aS (aS (aR ?_))
    (refine nx (aM (gN rfl) rfl rfl rfl rfl rfl) rfl ?_)
    (refine nx (a_seql (gN rfl) rfl rfl rfl rfl rfl rfl rfl) rfl ?_)
    (refine nx (aM (gN rfl) rfl rfl rfl rfl rfl) rfl ?_)
    (refine nx (aM (gd_on rfl rfl rfl rfl (by first | rfl | assumption | (simp; done))) rfl rfl rfl rfl rfl) rfl ?_)
    (refine nx (a_call (gd_on rfl rfl rfl rfl (by first | rfl | assumption | (simp; done))) rfl rfl rfl rfl rfl (c1)) rfl ?_)
    (refine nx (a_not (gd_on rfl rfl rfl rfl (by first | rfl | assumption | (simp; done))) rfl rfl rfl rfl rfl) rfl ?_)
    (refine nx (aM (gd_on rfl rfl rfl rfl (by first | rfl | assumption | (simp; done))) rfl rfl rfl rfl rfl) rfl ?_)
    (refine ⟨_, _, _, a_off (go_off rfl rfl rfl rfl (by first | rfl | assumption | (simp; done) | (simp [*]; done))) rfl rfl rfl, rfl, ?_⟩)
    (refine ⟨_, _, _, a_off (go_off rfl rfl rfl rfl (by first | rfl | assumption | (simp; done) | (simp [*]; done))) rfl rfl rfl, rfl, ?_⟩)
    (refine ⟨_, _, _, a_off (go_off rfl rfl rfl rfl (by first | rfl | assumption | (simp; done) | (simp [*]; done))) rfl rfl rfl, rfl, ?_⟩)
    (refine ⟨_, _, _, aPf (gd_on rfl rfl rfl rfl (by first | rfl | assumption | (simp; done))) rfl rfl rfl rfl rfl ?hb rfl, rfl, ?_⟩; case hb => (first | rfl | assumption | (simp; done)))
    (refine ⟨_, _, _, aPf (gN rfl) rfl rfl rfl rfl rfl ?hb rfl, rfl, ?_⟩; case hb => (first | rfl | assumption | (simp; done)))
    show AWp _ _ _ _ _ _ _
    refine aC rfl (fun hc => by cases hc) (fun hc => aK ?_)
    show AWp _ _ _ _ _ _ _
    refine aS (aR ?_)
    (refine nx (aM (gN rfl) rfl rfl rfl rfl rfl) rfl ?_)
    (refine nx (a_callO (gN rfl) rfl rfl rfl rfl rfl (move_abs t ht) (by repeat (first | exact trivial | refine ⟨rfl, ?_⟩)) (by first | rfl | kernel_rfl) (by first | rfl | kernel_rfl) (by first | rfl | kernel_rfl) (by first | rfl | kernel_rfl) (hnb_of (by first | rfl | kernel_rfl))) rfl ?_)
    show AWp _ _ _ _ _ _ _
    refine aS (aR ?_)
    (refine nx (aM (gN rfl) rfl rfl rfl rfl rfl) rfl ?_)
    (refine nx (aA (gN rfl) rfl rfl rfl rfl rfl) rfl ?_)
    (refine nx (aA (gN rfl) rfl rfl rfl rfl rfl) rfl ?_)
    show AWp _ _ _ _ _ _ _
    exact aT ⟨.inr rfl, _, Wk.refl _, rfl, rfl, rfl, rfl, trivial⟩
  | false =>
  cases h2 : isGrL t.nx with
  | true =>
    have hn : nameT t = (t.nx, true, mvT t.rs) := by unfold nameT isNmL; rw [g, h1, h2]; rfl
    rw [hn]
    refine afunO_of Tryd.func49 Tryd.ntmps49 rfl rfl rfl rfl rfl rfl ?_
    intro w U hU
    have c1 := isSm_abs w t.nx h0
    have c2 := isGr_abs w t.nx h0
    rw [h1] at c1
    rw [h2] at c2
    refine aS (aR ?_)
    (refine nx (aA (gN rfl) rfl rfl rfl rfl rfl) rfl ?_)
    (refine nx (aA (gN rfl) rfl rfl rfl rfl rfl) rfl ?_)
    show AWp _ _ _ _ _ _ _
    refine aS (aR ?_)
    (refine nx (aM (gN rfl) rfl rfl rfl rfl rfl) rfl ?_)
    (refine nx (aNc (gN rfl) rfl rfl rfl rfl rfl) rfl ?_)
    (refine nx (aF (gN rfl) rfl rfl rfl rfl rfl rfl rfl rfl rfl) rfl ?_)
    (refine nx (aLf (gN rfl) rfl rfl rfl rfl rfl rfl rfl rfl rfl rfl rfl rfl rfl) rfl ?_)
    (refine nx (aA (gN rfl) rfl rfl rfl rfl rfl) rfl ?_)
    show AWp _ _ _ _ _ _ _
    refine aS (aS (aR ?_))
    (refine nx (aM (gN rfl) rfl rfl rfl rfl rfl) rfl ?_)
    (refine nx (a_seql (gN rfl) rfl rfl rfl rfl rfl rfl rfl) rfl ?_)
    (refine nx (aM (gN rfl) rfl rfl rfl rfl rfl) rfl ?_)
    (refine nx (aM (gd_on rfl rfl rfl rfl (by first | rfl | assumption | (simp; done))) rfl rfl rfl rfl rfl) rfl ?_)
    (refine nx (a_call (gd_on rfl rfl rfl rfl (by first | rfl | assumption | (simp; done))) rfl rfl rfl rfl rfl (c1)) rfl ?_)
    (refine nx (a_not (gd_on rfl rfl rfl rfl (by first | rfl | assumption | (simp; done))) rfl rfl rfl rfl rfl) rfl ?_)
    (refine nx (aM (gd_on rfl rfl rfl rfl (by first | rfl | assumption | (simp; done))) rfl rfl rfl rfl rfl) rfl ?_)
    (refine nx (aM (gd_on rfl rfl rfl rfl (by first | rfl | assumption | (simp; done))) rfl rfl rfl rfl rfl) rfl ?_)
    (refine nx (a_call (gd_on rfl rfl rfl rfl (by first | rfl | assumption | (simp; done))) rfl rfl rfl rfl rfl (c2)) rfl ?_)
    (refine nx (a_not (gd_on rfl rfl rfl rfl (by first | rfl | assumption | (simp; done))) rfl rfl rfl rfl rfl) rfl ?_)
    (refine ⟨_, _, _, aPt (gd_on rfl rfl rfl rfl (by first | rfl | assumption | (simp; done))) rfl rfl rfl rfl rfl ?hb rfl, rfl, ?_⟩; case hb => (first | rfl | assumption | (simp; done)))
    (refine ⟨_, _, _, aPf (gN rfl) rfl rfl rfl rfl rfl ?hb rfl, rfl, ?_⟩; case hb => (first | rfl | assumption | (simp; done)))
    show AWp _ _ _ _ _ _ _
    refine aC rfl (fun hc => by cases hc) (fun hc => aK ?_)
    show AWp _ _ _ _ _ _ _
    refine aS (aR ?_)
    (refine nx (aM (gN rfl) rfl rfl rfl rfl rfl) rfl ?_)
    (refine nx (a_callO (gN rfl) rfl rfl rfl rfl rfl (move_abs t ht) (by repeat (first | exact trivial | refine ⟨rfl, ?_⟩)) (by first | rfl | kernel_rfl) (by first | rfl | kernel_rfl) (by first | rfl | kernel_rfl) (by first | rfl | kernel_rfl) (hnb_of (by first | rfl | kernel_rfl))) rfl ?_)
    show AWp _ _ _ _ _ _ _
    refine aS (aR ?_)
    (refine nx (aM (gN rfl) rfl rfl rfl rfl rfl) rfl ?_)
    (refine nx (aA (gN rfl) rfl rfl rfl rfl rfl) rfl ?_)
    (refine nx (aA (gN rfl) rfl rfl rfl rfl rfl) rfl ?_)
    show AWp _ _ _ _ _ _ _
    exact aT ⟨.inr rfl, _, Wk.refl _, rfl, rfl, rfl, rfl, trivial⟩
  | false =>
    have hn : nameT t = ([], false, t) := by unfold nameT isNmL; rw [g, h1, h2]; rfl
    rw [hn]
    refine afunO_of Tryd.func49 Tryd.ntmps49 rfl rfl rfl rfl rfl rfl ?_
    intro w U hU
    have c1 := isSm_abs w t.nx h0
    have c2 := isGr_abs w t.nx h0
    rw [h1] at c1
    rw [h2] at c2
    refine aS (aR ?_)
    (refine nx (aA (gN rfl) rfl rfl rfl rfl rfl) rfl ?_)
    (refine nx (aA (gN rfl) rfl rfl rfl rfl rfl) rfl ?_)
    show AWp _ _ _ _ _ _ _
    refine aS (aR ?_)
    (refine nx (aM (gN rfl) rfl rfl rfl rfl rfl) rfl ?_)
    (refine nx (aNc (gN rfl) rfl rfl rfl rfl rfl) rfl ?_)
    (refine nx (aF (gN rfl) rfl rfl rfl rfl rfl rfl rfl rfl rfl) rfl ?_)
    (refine nx (aLf (gN rfl) rfl rfl rfl rfl rfl rfl rfl rfl rfl rfl rfl rfl rfl) rfl ?_)
    (refine nx (aA (gN rfl) rfl rfl rfl rfl rfl) rfl ?_)
    show AWp _ _ _ _ _ _ _
    refine aS (aS (aR ?_))
    (refine nx (aM (gN rfl) rfl rfl rfl rfl rfl) rfl ?_)
    (refine nx (a_seql (gN rfl) rfl rfl rfl rfl rfl rfl rfl) rfl ?_)
    (refine nx (aM (gN rfl) rfl rfl rfl rfl rfl) rfl ?_)
    (refine nx (aM (gd_on rfl rfl rfl rfl (by first | rfl | assumption | (simp; done))) rfl rfl rfl rfl rfl) rfl ?_)
    (refine nx (a_call (gd_on rfl rfl rfl rfl (by first | rfl | assumption | (simp; done))) rfl rfl rfl rfl rfl (c1)) rfl ?_)
    (refine nx (a_not (gd_on rfl rfl rfl rfl (by first | rfl | assumption | (simp; done))) rfl rfl rfl rfl rfl) rfl ?_)
    (refine nx (aM (gd_on rfl rfl rfl rfl (by first | rfl | assumption | (simp; done))) rfl rfl rfl rfl rfl) rfl ?_)
    (refine nx (aM (gd_on rfl rfl rfl rfl (by first | rfl | assumption | (simp; done))) rfl rfl rfl rfl rfl) rfl ?_)
    (refine nx (a_call (gd_on rfl rfl rfl rfl (by first | rfl | assumption | (simp; done))) rfl rfl rfl rfl rfl (c2)) rfl ?_)
    (refine nx (a_not (gd_on rfl rfl rfl rfl (by first | rfl | assumption | (simp; done))) rfl rfl rfl rfl rfl) rfl ?_)
    (refine ⟨_, _, _, aPt (gd_on rfl rfl rfl rfl (by first | rfl | assumption | (simp; done))) rfl rfl rfl rfl rfl ?hb rfl, rfl, ?_⟩; case hb => (first | rfl | assumption | (simp; done)))
    (refine ⟨_, _, _, aPf (gN rfl) rfl rfl rfl rfl rfl ?hb rfl, rfl, ?_⟩; case hb => (first | rfl | assumption | (simp; done)))
    show AWp _ _ _ _ _ _ _
    refine aC rfl (fun hc => ?_) (fun hc => by cases hc)
    refine aS (aR ?_)
    (refine nx (aA (gN rfl) rfl rfl rfl rfl rfl) rfl ?_)
    (refine nx (aA (gN rfl) rfl rfl rfl rfl rfl) rfl ?_)
    show AWp _ _ _ _ _ _ _
    exact aT ⟨.inr rfl, _, Wk.refl _, rfl, rfl, rfl, rfl, trivial⟩
end Go.Proofs.YtglbohajmccehaaDoor

-- @STR@
namespace Go.Proofs.YtglbohajmccehaaDoor
open Go.RowKit
set_option linter.unusedVariables false
set_option linter.unusedSimpArgs false
set_option maxRecDepth 100000

def TermC (n : Nat) : Prop := ∀ (d : Nat) (t : Tkn) (r : Ph × List Ph × Bool × Tkn), d ≤ 40 → t.len ≤ 1000000 → rdX n d t none = some r → AFunO Tryd.prog 39 (tkS t) [.bp 350001 0 [], .val (.i d)] (.tup [r.1.cw, .b r.2.2.1]) (tkS r.2.2.2)
def PartsC (n : Nat) : Prop := ∀ (d : Nat) (t : Tkn) (r : Ph × List Ph × Bool × Tkn), d ≤ 40 → t.len ≤ 1000000 → rdX n d t (some []) = some r → AFunO Tryd.prog 50 (tkS t) [.bp 350001 0 [], .val (.i d)] (.tup [.lst (r.2.1.map Ph.cv), .b r.2.2.1]) (tkS r.2.2.2)
theorem rs_le {t : Tkn} (h : t.len ≤ 1000000) : t.rs.length ≤ 1000000 := by unfold Tkn.len at h; omega
-- 
set_option maxHeartbeats 1000000 in
theorem parts_of (n : Nat) (hT : ∀ k, k < n → TermC k) : PartsC n := by
  intro d t r hd ht hr
  refine afunO_of Tryd.func50 Tryd.ntmps50 rfl rfl rfl rfl rfl rfl ?_
  intro w U hU
  refine aS (aR ?_)
  (refine nx (aA (gN rfl) rfl rfl rfl rfl rfl) rfl ?_)
  (refine nx (aA (gN rfl) rfl rfl rfl rfl rfl) rfl ?_)
  show AWp _ _ _ _ _ _ _
  refine aS (aR ?_)
  (refine nx (aA (gN rfl) rfl rfl rfl rfl rfl) rfl ?_)
  show AWp _ _ _ _ _ _ _
  let st : List Ph → Tkn → AS := fun acc t => (0, .bp 350001 0 []) :: (1, .val (.i d)) :: (6, .own (.lst (acc.map Ph.cv)) 200020) :: (200020, .tok 94 2) :: tkS t
  refine aB (awp_loop (fun m s => ∃ acc t', m ≤ n ∧ acc.length + t'.len ≤ 1000000 ∧ rdX m d t' (some acc) = some r ∧ s = st acc t') (n := n) (s' := st [] t) ((wk_nil 6 200020 94 2 rfl rfl rfl rfl rfl (by kernel_rfl) (by kernel_rfl)).trans (wk_sub ⟨rfl, rfl, rfl, rfl, rfl, rfl, rfl, trivial⟩)) ⟨[], t, Nat.le_refl _, by simpa using ht, hr, rfl⟩ ?_)
  rintro m s ⟨acc, t', hmn, hl, hm, rfl⟩
  obtain ⟨m, rfl⟩ : ∃ k, m = k + 1 := by
    cases m with
    | zero => simp [rdX] at hm
    | succ m => exact ⟨m, rfl⟩
  rw [rdX] at hm
  cases hq : rdX m d t' none with
  | none => rw [hq] at hm; cases hm
  | some q =>
  rw [hq] at hm
  simp only at hm
  have hc := hT m (by omega) d t' q hd (by omega) hq
  obtain ⟨l1, l2⟩ := (rdX_len m d t').1 q hq
  refine aB (aS (aR ?_))
  (refine nx (aM (gN rfl) rfl rfl rfl rfl rfl) rfl ?_)
  (refine nx (aM (gN rfl) rfl rfl rfl rfl rfl) rfl ?_)
  (refine nx (a_callO (gN rfl) rfl rfl rfl rfl rfl (hc) (by repeat (first | exact trivial | refine ⟨rfl, ?_⟩)) (by first | rfl | kernel_rfl) (by first | rfl | kernel_rfl) (by first | rfl | kernel_rfl) (by first | rfl | kernel_rfl) (hnb_of (by first | rfl | kernel_rfl))) rfl ?_)
  (refine nx (aM (gN rfl) rfl rfl rfl rfl rfl) rfl ?_)
  (refine nx (aX (gN rfl) rfl rfl rfl rfl rfl rfl) rfl ?_)
  (refine nx (aX (gN rfl) rfl rfl rfl rfl rfl rfl) rfl ?_)
  (refine nx (a_alloc (gN rfl) rfl rfl rfl rfl rfl rfl rfl rfl rfl rfl) (by kernel_rfl) ?_)
  (refine nx (aSt (gN rfl) rfl rfl rfl rfl rfl rfl rfl rfl rfl rfl) rfl ?_)
  (refine nx (aA (gN rfl) rfl rfl rfl rfl rfl) rfl ?_)
  show AWp _ _ _ _ _ _ _
  cases hok : q.2.2.1 with
  | false =>
    rw [hok] at hm
    simp only [Bool.false_eq_true, if_false, Option.some.injEq] at hm
    subst hm
    refine aS (aS (aR ?_))
    (refine nx (aM (gN rfl) rfl rfl rfl rfl rfl) rfl ?_)
    (refine nx (a_not (gN rfl) rfl rfl rfl rfl rfl) rfl ?_)
    show AWp _ _ _ _ _ _ _
    refine aC rfl (fun h => ?_) (fun h => by cases h)
    refine aS (aR ?_)
    (refine nx (aA (gN rfl) rfl rfl rfl rfl rfl) rfl ?_)
    (refine nx (aA (gN rfl) rfl rfl rfl rfl rfl) rfl ?_)
    show AWp _ _ _ _ _ _ _
    exact aT ⟨.inr rfl, _, Wk.refl _, rfl, rfl, rfl, rfl, trivial⟩
  | true =>
    rw [hok] at hm
    simp only [if_true] at hm
    have l2 := l2 hok
    have l3 := takeT_len q.2.2.2 [44]
    have htk := take_abs q.2.2.2 [44] (rs_le (by omega))
    have hsz := Ph.size_all acc
    have hal : (acc.map Ph.cv).length ≤ 1000000 := by rw [List.length_map]; omega
    have hap : (acc ++ [q.1]).map Ph.cv = acc.map Ph.cv ++ [q.1.cw] := by rw [List.map_append, List.map_singleton, Ph.cv_eq]
    refine aS (aS (aR ?_))
    (refine nx (aM (gN rfl) rfl rfl rfl rfl rfl) rfl ?_)
    (refine nx (a_not (gN rfl) rfl rfl rfl rfl rfl) rfl ?_)
    show AWp _ _ _ _ _ _ _
    refine aC rfl (fun h => by cases h) (fun h => aK ?_)
    show AWp _ _ _ _ _ _ _
    refine aS (aR ?_)
    (refine nx (aM (gN rfl) rfl rfl rfl rfl rfl) rfl ?_)
    (refine nx (aL (gN rfl) rfl rfl rfl rfl rfl rfl rfl rfl rfl rfl rfl rfl) rfl ?_)
    (refine nx (a_bslice (gN rfl) rfl rfl rfl rfl rfl rfl rfl rfl rfl rfl rfl rfl rfl) rfl ?_)
    (refine nx (a_app (gN rfl) rfl rfl rfl rfl rfl rfl rfl rfl rfl rfl rfl rfl rfl rfl rfl (by first | assumption | exact sZ rfl | exact Tm.size_all _ | exact Bd.size_all _ | exact ints_size _ | exact bys_size _ | exact Lt.size_all _) (by first | assumption | exact sZ rfl | exact Tm.size_all _ | exact Bd.size_all _ | exact ints_size _ | exact bys_size _ | exact Lt.size_all _) (by first | omega | (simp only [List.length_map, List.length_append, List.length_cons, List.length_nil] <;> omega) | (simp <;> omega))) (by kernel_rfl) ?_)
    (refine nx (aA (gN rfl) rfl rfl rfl rfl rfl) rfl ?_)
    show AWp _ _ _ _ _ _ _
    refine AWp.wk (wk_sub (s' := (0, .bp 350001 0 []) :: (1, .val (.i d)) :: (6, .own (.lst ((acc ++ [q.1]).map Ph.cv)) 300020) :: (300020, .tok 94 2) :: tkS q.2.2.2) ⟨rfl, rfl, by rw [hap]; rfl, rfl, rfl, rfl, rfl, trivial⟩) ?_
    cases hcm : (takeT q.2.2.2 [44]).1 with
    | true =>
      rw [hcm] at hm htk
      simp only [if_true] at hm
      refine aS (aR ?_)
      (refine nx (aM (gN rfl) rfl rfl rfl rfl rfl) rfl ?_)
      (refine nx (a_callO (gN rfl) rfl rfl rfl rfl rfl (htk) (by repeat (first | exact trivial | refine ⟨rfl, ?_⟩)) (by first | rfl | kernel_rfl) (by first | rfl | kernel_rfl) (by first | rfl | kernel_rfl) (by first | rfl | kernel_rfl) (hnb_of (by first | rfl | kernel_rfl))) rfl ?_)
      (refine nx (a_not (gN rfl) rfl rfl rfl rfl rfl) rfl ?_)
      show AWp _ _ _ _ _ _ _
      refine aC rfl (fun h => by cases h) (fun h => aK ?_)
      refine ⟨m, st (acc ++ [q.1]) (takeT q.2.2.2 [44]).2, by omega, ⟨acc ++ [q.1], _, by omega, by rw [List.length_append, List.length_singleton]; omega, hm, rfl⟩, (wk_sub (s' := (0, .bp 350001 0 []) :: (1, .val (.i d)) :: (6, .own (.lst ((acc ++ [q.1]).map Ph.cv)) 300020) :: (300020, .tok 94 2) :: tkS (takeT q.2.2.2 [44]).2) ⟨rfl, rfl, rfl, rfl, rfl, rfl, rfl, trivial⟩).trans (wk_ren 300020 200020 rfl rfl (by kernel_rfl) (by kernel_rfl))⟩
    | false =>
      rw [hcm] at hm htk
      simp only [Bool.false_eq_true, if_false, Option.some.injEq] at hm
      subst hm
      refine aS (aR ?_)
      (refine nx (aM (gN rfl) rfl rfl rfl rfl rfl) rfl ?_)
      (refine nx (a_callO (gN rfl) rfl rfl rfl rfl rfl (htk) (by repeat (first | exact trivial | refine ⟨rfl, ?_⟩)) (by first | rfl | kernel_rfl) (by first | rfl | kernel_rfl) (by first | rfl | kernel_rfl) (by first | rfl | kernel_rfl) (hnb_of (by first | rfl | kernel_rfl))) rfl ?_)
      (refine nx (a_not (gN rfl) rfl rfl rfl rfl rfl) rfl ?_)
      show AWp _ _ _ _ _ _ _
      refine aC rfl (fun h => ?_) (fun h => by cases h)
      refine aS (aR ?_)
      (refine nx (aM (gN rfl) rfl rfl rfl rfl rfl) rfl ?_)
      (refine nx (aA (gN rfl) rfl rfl rfl rfl rfl) rfl ?_)
      (refine nx (aA (gN rfl) rfl rfl rfl rfl rfl) rfl ?_)
      show AWp _ _ _ _ _ _ _
      exact aT ⟨.inr rfl, _, Wk.refl _, rfl, rfl, rfl, rfl, trivial⟩
-- 
set_option maxHeartbeats 1000000 in
theorem term_of (n : Nat) (hP : PartsC n) : TermC (n + 1) := by
  intro d t r hd ht hr
  obtain ⟨hn1, hn2⟩ := nameT_len t
  have htn := takeN_abs t (rs_le ht)
  rw [rdX] at hr
  by_cases h32 : 32 < d
  · rw [if_pos h32] at hr
    cases hr
    have g : decide ((d : Int) > 32) = true := by rw [decide_eq_true_eq]; omega
    refine afunO_of Tryd.func39 Tryd.ntmps39 rfl rfl rfl rfl rfl rfl ?_
    intro w U hU
    refine aS (aR ?_)
    (refine nx (a_alloc (gN rfl) rfl rfl rfl rfl rfl rfl rfl rfl rfl rfl) (by kernel_rfl) ?_)
    (refine nx (aA (gN rfl) rfl rfl rfl rfl rfl) rfl ?_)
    show AWp _ _ _ _ _ _ _
    refine aS (aS (aR ?_))
    (refine nx (aM (gN rfl) rfl rfl rfl rfl rfl) rfl ?_)
    (refine nx (a_gtr (gN rfl) rfl rfl rfl rfl rfl rfl) rfl ?_)
    show AWp _ _ _ _ _ _ _
    refine aC rfl (fun h => ?_) (fun h => by rw [g] at h; cases h)
    refine aS (aR ?_)
    (refine nx (a_build (gN rfl) rfl rfl rfl rfl rfl rfl rfl rfl rfl rfl rfl) rfl ?_)
    (refine nx (aSt (gN rfl) rfl rfl rfl rfl rfl rfl rfl rfl rfl rfl) rfl ?_)
    (refine nx (aA (gN rfl) rfl rfl rfl rfl rfl) rfl ?_)
    show AWp _ _ _ _ _ _ _
    exact aT ⟨.inr rfl, _, Wk.refl _, rfl, rfl, rfl, rfl, trivial⟩
  rw [if_neg h32] at hr
  have g : decide ((d : Int) > 32) = false := by rw [decide_eq_false_iff_not]; omega
  have ih3 := takeT_len (nameT t).2.2 [40]
  have htk := take_abs (nameT t).2.2 [40] (rs_le (by omega))
  have hne : (nameT t).2.1 = true → (nameT t).1 ≠ [] := fun h => by
    unfold nameT at h ⊢
    split
    · rename_i h2
      unfold isNmL at h2
      intro e
      have e : t.nx = [] := e
      rw [e] at h2
      cases h2
    · rename_i h2; rw [if_neg h2] at h; cases h
  generalize hN : nameT t = N at *
  obtain ⟨nm, ok, t1⟩ := N
  simp only at hr htn hn1 hn2 ih3 htk hne
  refine afunO_of Tryd.func39 Tryd.ntmps39 rfl rfl rfl rfl rfl rfl ?_
  intro w U hU
  refine aS (aR ?_)
  (refine nx (a_alloc (gN rfl) rfl rfl rfl rfl rfl rfl rfl rfl rfl rfl) (by kernel_rfl) ?_)
  (refine nx (aA (gN rfl) rfl rfl rfl rfl rfl) rfl ?_)
  show AWp _ _ _ _ _ _ _
  refine aS (aS (aR ?_))
  (refine nx (aM (gN rfl) rfl rfl rfl rfl rfl) rfl ?_)
  (refine nx (a_gtr (gN rfl) rfl rfl rfl rfl rfl rfl) rfl ?_)
  show AWp _ _ _ _ _ _ _
  refine aC rfl (fun h => by rw [g] at h; cases h) (fun h => aK ?_)
  show AWp _ _ _ _ _ _ _
  refine aS (aR ?_)
  (refine nx (aM (gN rfl) rfl rfl rfl rfl rfl) rfl ?_)
  (refine nx (a_callO (gN rfl) rfl rfl rfl rfl rfl (htn) (by repeat (first | exact trivial | refine ⟨rfl, ?_⟩)) (by first | rfl | kernel_rfl) (by first | rfl | kernel_rfl) (by first | rfl | kernel_rfl) (by first | rfl | kernel_rfl) (hnb_of (by first | rfl | kernel_rfl))) rfl ?_)
  (refine nx (aM (gN rfl) rfl rfl rfl rfl rfl) rfl ?_)
  (refine nx (aX (gN rfl) rfl rfl rfl rfl rfl rfl) rfl ?_)
  (refine nx (aX (gN rfl) rfl rfl rfl rfl rfl rfl) rfl ?_)
  (refine nx (aA (gN rfl) rfl rfl rfl rfl rfl) rfl ?_)
  (refine nx (aA (gN rfl) rfl rfl rfl rfl rfl) rfl ?_)
  show AWp _ _ _ _ _ _ _
  refine AWp.wk (wk_sub (s' := (0, .bp 350001 0 []) :: (1, .val (.i d)) :: (4, .bp 4 0 []) :: (100004, ⟨5, .row [sv [], .lst []], 1, 0, [1]⟩) :: (6, .val (sv nm)) :: (7, .val (.b ok)) :: tkS t1) ⟨rfl, rfl, rfl, rfl, rfl, rfl, rfl, rfl, rfl, trivial⟩) ?_
  cases ok with
  | false =>
    simp only [Bool.not_false, Bool.true_or, if_true, Option.some.injEq] at hr
    subst hr
    refine aS (aS (aR ?_))
    (refine nx (aM (gN rfl) rfl rfl rfl rfl rfl) rfl ?_)
    (refine nx (a_not (gN rfl) rfl rfl rfl rfl rfl) rfl ?_)
    (refine nx (aM (gN rfl) rfl rfl rfl rfl rfl) rfl ?_)
    (refine ⟨_, _, _, a_off (go_off rfl rfl rfl rfl (by first | rfl | assumption | (simp; done) | (simp [*]; done))) rfl rfl rfl, rfl, ?_⟩)
    (refine ⟨_, _, _, a_off (go_off rfl rfl rfl rfl (by first | rfl | assumption | (simp; done) | (simp [*]; done))) rfl rfl rfl, rfl, ?_⟩)
    (refine ⟨_, _, _, aPt (gN rfl) rfl rfl rfl rfl rfl ?hb rfl, rfl, ?_⟩; case hb => (first | rfl | assumption | (simp; done)))
    (refine nx (aM (gN rfl) rfl rfl rfl rfl rfl) rfl ?_)
    (refine ⟨_, _, _, a_off (go_off rfl rfl rfl rfl (by first | rfl | assumption | (simp; done) | (simp [*]; done))) rfl rfl rfl, rfl, ?_⟩)
    (refine ⟨_, _, _, a_off (go_off rfl rfl rfl rfl (by first | rfl | assumption | (simp; done) | (simp [*]; done))) rfl rfl rfl, rfl, ?_⟩)
    (refine ⟨_, _, _, a_off (go_off rfl rfl rfl rfl (by first | rfl | assumption | (simp; done) | (simp [*]; done))) rfl rfl rfl, rfl, ?_⟩)
    (refine ⟨_, _, _, aPt (gN rfl) rfl rfl rfl rfl rfl ?hb rfl, rfl, ?_⟩; case hb => (first | rfl | assumption | (simp; done)))
    show AWp _ _ _ _ _ _ _
    refine aC rfl (fun h => ?_) (fun h => by cases h)
    refine aS (aR ?_)
    (refine nx (aM (gN rfl) rfl rfl rfl rfl rfl) rfl ?_)
    (refine nx (a_build (gN rfl) rfl rfl rfl rfl rfl rfl rfl rfl rfl rfl rfl) rfl ?_)
    (refine nx (aM (gN rfl) rfl rfl rfl rfl rfl) rfl ?_)
    (refine nx (aSt (gN rfl) rfl rfl rfl rfl rfl rfl rfl rfl rfl rfl) rfl ?_)
    (refine nx (aA (gN rfl) rfl rfl rfl rfl rfl) rfl ?_)
    show AWp _ _ _ _ _ _ _
    exact aT ⟨.inr rfl, _, Wk.refl _, rfl, rfl, rfl, rfl, trivial⟩
  | true =>
  have hne := hne rfl
  have hn2 := hn2 rfl
  have c2 := isGr_abs w nm hne
  cases h2 : isGrL nm with
  | true =>
    rw [h2] at c2 hr
    simp only [Bool.not_true, Bool.false_or, if_true, Option.some.injEq] at hr
    subst hr
    refine aS (aS (aR ?_))
    (refine nx (aM (gN rfl) rfl rfl rfl rfl rfl) rfl ?_)
    (refine nx (a_not (gN rfl) rfl rfl rfl rfl rfl) rfl ?_)
    (refine nx (aM (gN rfl) rfl rfl rfl rfl rfl) rfl ?_)
    (refine nx (aM (gd_on rfl rfl rfl rfl (by first | rfl | assumption | (simp; done))) rfl rfl rfl rfl rfl) rfl ?_)
    (refine nx (a_call (gd_on rfl rfl rfl rfl (by first | rfl | assumption | (simp; done))) rfl rfl rfl rfl rfl (c2)) rfl ?_)
    (refine ⟨_, _, _, aPf (gN rfl) rfl rfl rfl rfl rfl ?hb rfl, rfl, ?_⟩; case hb => (first | rfl | assumption | (simp; done)))
    (refine nx (aM (gN rfl) rfl rfl rfl rfl rfl) rfl ?_)
    (refine ⟨_, _, _, a_off (go_off rfl rfl rfl rfl (by first | rfl | assumption | (simp; done) | (simp [*]; done))) rfl rfl rfl, rfl, ?_⟩)
    (refine ⟨_, _, _, a_off (go_off rfl rfl rfl rfl (by first | rfl | assumption | (simp; done) | (simp [*]; done))) rfl rfl rfl, rfl, ?_⟩)
    (refine ⟨_, _, _, a_off (go_off rfl rfl rfl rfl (by first | rfl | assumption | (simp; done) | (simp [*]; done))) rfl rfl rfl, rfl, ?_⟩)
    (refine ⟨_, _, _, aPt (gN rfl) rfl rfl rfl rfl rfl ?hb rfl, rfl, ?_⟩; case hb => (first | rfl | assumption | (simp; done)))
    show AWp _ _ _ _ _ _ _
    refine aC rfl (fun h => ?_) (fun h => by cases h)
    refine aS (aR ?_)
    (refine nx (aM (gN rfl) rfl rfl rfl rfl rfl) rfl ?_)
    (refine nx (a_build (gN rfl) rfl rfl rfl rfl rfl rfl rfl rfl rfl rfl rfl) rfl ?_)
    (refine nx (aM (gN rfl) rfl rfl rfl rfl rfl) rfl ?_)
    (refine nx (aSt (gN rfl) rfl rfl rfl rfl rfl rfl rfl rfl rfl rfl) rfl ?_)
    (refine nx (aA (gN rfl) rfl rfl rfl rfl rfl) rfl ?_)
    show AWp _ _ _ _ _ _ _
    exact aT ⟨.inr rfl, _, Wk.refl _, rfl, rfl, rfl, rfl, trivial⟩
  | false =>
  rw [h2] at c2 hr
  simp only [Bool.not_true, Bool.or_self, Bool.false_eq_true, if_false] at hr
  generalize hK : takeT t1 [40] = K at *
  obtain ⟨kb, t2⟩ := K
  simp only at hr ih3 htk
  cases kb with
  | false =>
    simp only [Bool.false_eq_true, if_false, Option.some.injEq] at hr
    subst hr
    refine aS (aS (aR ?_))
    (refine nx (aM (gN rfl) rfl rfl rfl rfl rfl) rfl ?_)
    (refine nx (a_not (gN rfl) rfl rfl rfl rfl rfl) rfl ?_)
    (refine nx (aM (gN rfl) rfl rfl rfl rfl rfl) rfl ?_)
    (refine nx (aM (gd_on rfl rfl rfl rfl (by first | rfl | assumption | (simp; done))) rfl rfl rfl rfl rfl) rfl ?_)
    (refine nx (a_call (gd_on rfl rfl rfl rfl (by first | rfl | assumption | (simp; done))) rfl rfl rfl rfl rfl (c2)) rfl ?_)
    (refine ⟨_, _, _, aPf (gN rfl) rfl rfl rfl rfl rfl ?hb rfl, rfl, ?_⟩; case hb => (first | rfl | assumption | (simp; done)))
    (refine nx (aM (gN rfl) rfl rfl rfl rfl rfl) rfl ?_)
    (refine nx (aM (gd_on rfl rfl rfl rfl (by first | rfl | assumption | (simp; done))) rfl rfl rfl rfl rfl) rfl ?_)
    (refine nx (a_callO (gd_on rfl rfl rfl rfl (by first | rfl | assumption | (simp; done))) rfl rfl rfl rfl rfl (htk) (by repeat (first | exact trivial | refine ⟨rfl, ?_⟩)) (by first | rfl | kernel_rfl) (by first | rfl | kernel_rfl) (by first | rfl | kernel_rfl) (by first | rfl | kernel_rfl) (hnb_of (by first | rfl | kernel_rfl))) rfl ?_)
    (refine nx (a_not (gd_on rfl rfl rfl rfl (by first | rfl | assumption | (simp; done))) rfl rfl rfl rfl rfl) rfl ?_)
    (refine ⟨_, _, _, aPf (gN rfl) rfl rfl rfl rfl rfl ?hb rfl, rfl, ?_⟩; case hb => (first | rfl | assumption | (simp; done)))
    show AWp _ _ _ _ _ _ _
    refine aC rfl (fun h => ?_) (fun h => by cases h)
    refine aS (aR ?_)
    (refine nx (aM (gN rfl) rfl rfl rfl rfl rfl) rfl ?_)
    (refine nx (a_build (gN rfl) rfl rfl rfl rfl rfl rfl rfl rfl rfl rfl rfl) rfl ?_)
    (refine nx (aM (gN rfl) rfl rfl rfl rfl rfl) rfl ?_)
    (refine nx (aSt (gN rfl) rfl rfl rfl rfl rfl rfl rfl rfl rfl rfl) rfl ?_)
    (refine nx (aA (gN rfl) rfl rfl rfl rfl rfl) rfl ?_)
    show AWp _ _ _ _ _ _ _
    exact aT ⟨.inr rfl, _, Wk.refl _, rfl, rfl, rfl, rfl, trivial⟩
  | true =>
  simp only [if_true] at hr
  refine aS (aS (aR ?_))
  (refine nx (aM (gN rfl) rfl rfl rfl rfl rfl) rfl ?_)
  (refine nx (a_not (gN rfl) rfl rfl rfl rfl rfl) rfl ?_)
  (refine nx (aM (gN rfl) rfl rfl rfl rfl rfl) rfl ?_)
  (refine nx (aM (gd_on rfl rfl rfl rfl (by first | rfl | assumption | (simp; done))) rfl rfl rfl rfl rfl) rfl ?_)
  (refine nx (a_call (gd_on rfl rfl rfl rfl (by first | rfl | assumption | (simp; done))) rfl rfl rfl rfl rfl (c2)) rfl ?_)
  (refine ⟨_, _, _, aPf (gN rfl) rfl rfl rfl rfl rfl ?hb rfl, rfl, ?_⟩; case hb => (first | rfl | assumption | (simp; done)))
  (refine nx (aM (gN rfl) rfl rfl rfl rfl rfl) rfl ?_)
  (refine nx (aM (gd_on rfl rfl rfl rfl (by first | rfl | assumption | (simp; done))) rfl rfl rfl rfl rfl) rfl ?_)
  (refine nx (a_callO (gd_on rfl rfl rfl rfl (by first | rfl | assumption | (simp; done))) rfl rfl rfl rfl rfl (htk) (by repeat (first | exact trivial | refine ⟨rfl, ?_⟩)) (by first | rfl | kernel_rfl) (by first | rfl | kernel_rfl) (by first | rfl | kernel_rfl) (by first | rfl | kernel_rfl) (hnb_of (by first | rfl | kernel_rfl))) rfl ?_)
  (refine nx (a_not (gd_on rfl rfl rfl rfl (by first | rfl | assumption | (simp; done))) rfl rfl rfl rfl rfl) rfl ?_)
  (refine ⟨_, _, _, aPf (gN rfl) rfl rfl rfl rfl rfl ?hb rfl, rfl, ?_⟩; case hb => (first | rfl | assumption | (simp; done)))
  show AWp _ _ _ _ _ _ _
  refine aC rfl (fun h => by cases h) (fun h => aK ?_)
  show AWp _ _ _ _ _ _ _
  refine AWp.wk (wk_sub (s' := (0, .bp 350001 0 []) :: (1, .val (.i d)) :: (4, .bp 4 0 []) :: (100004, ⟨5, .row [sv [], .lst []], 1, 0, [1]⟩) :: (6, .val (sv nm)) :: tkS t2) ⟨rfl, rfl, rfl, rfl, rfl, rfl, rfl, rfl, trivial⟩) ?_
  cases hq : rdX n (d + 1) t2 (some []) with
  | none => rw [hq] at hr; cases hr
  | some q =>
  rw [hq] at hr
  simp only at hr
  have l4 := (rdX_len n (d + 1) t2).2 [] q hq
  have hc := hP (d + 1) t2 q (by omega) (by omega) hq
  have hcl := take_abs q.2.2.2 [41] (rs_le (by omega))
  refine aS (aR ?_)
  (refine nx (aM (gN rfl) rfl rfl rfl rfl rfl) rfl ?_)
  (refine nx (aM (gN rfl) rfl rfl rfl rfl rfl) rfl ?_)
  (refine nx (a_add (gN rfl) rfl rfl rfl rfl rfl rfl (by first | omega | (simp only [List.length_map, List.length_append, List.length_cons, List.length_nil] <;> omega) | (simp <;> omega))) rfl ?_)
  (refine nx (a_callO (gN rfl) rfl rfl rfl rfl rfl (hc) (by repeat (first | exact trivial | refine ⟨rfl, ?_⟩)) (by first | rfl | kernel_rfl) (by first | rfl | kernel_rfl) (by first | rfl | kernel_rfl) (by first | rfl | kernel_rfl) (hnb_of (by first | rfl | kernel_rfl))) rfl ?_)
  (refine nx (aM (gN rfl) rfl rfl rfl rfl rfl) rfl ?_)
  (refine nx (aX (gN rfl) rfl rfl rfl rfl rfl rfl) rfl ?_)
  (refine nx (aX (gN rfl) rfl rfl rfl rfl rfl rfl) rfl ?_)
  (refine nx (aA (gN rfl) rfl rfl rfl rfl rfl) rfl ?_)
  (refine nx (aA (gN rfl) rfl rfl rfl rfl rfl) rfl ?_)
  show AWp _ _ _ _ _ _ _
  refine AWp.wk (wk_sub (s' := (0, .bp 350001 0 []) :: (4, .bp 4 0 []) :: (100004, ⟨5, .row [sv [], .lst []], 1, 0, [1]⟩) :: (6, .val (sv nm)) :: (7, .val (.b q.2.2.1)) :: (8, .val (.lst (q.2.1.map Ph.cv))) :: tkS q.2.2.2) ⟨rfl, rfl, rfl, rfl, rfl, rfl, rfl, rfl, rfl, trivial⟩) ?_
  cases hok : q.2.2.1 with
  | false =>
    rw [hok] at hr
    simp only [Bool.false_eq_true, if_false, Option.some.injEq] at hr
    subst hr
    refine aS (aR ?_)
    (refine nx (aM (gN rfl) rfl rfl rfl rfl rfl) rfl ?_)
    (refine nx (aM (gN rfl) rfl rfl rfl rfl rfl) rfl ?_)
    (refine nx (a_build (gN rfl) rfl rfl rfl rfl rfl rfl rfl rfl rfl rfl rfl) rfl ?_)
    (refine nx (aM (gN rfl) rfl rfl rfl rfl rfl) rfl ?_)
    (refine nx (aM (gN rfl) rfl rfl rfl rfl rfl) rfl ?_)
    (refine ⟨_, _, _, a_off (go_off rfl rfl rfl rfl (by first | rfl | assumption | (simp; done) | (simp [*]; done))) rfl rfl rfl, rfl, ?_⟩)
    (refine ⟨_, _, _, a_off (go_off rfl rfl rfl rfl (by first | rfl | assumption | (simp; done) | (simp [*]; done))) rfl rfl rfl, rfl, ?_⟩)
    (refine ⟨_, _, _, aPf (gN rfl) rfl rfl rfl rfl rfl ?hb rfl, rfl, ?_⟩; case hb => (first | rfl | assumption | (simp; done)))
    (refine nx (aSt (gN rfl) rfl rfl rfl rfl rfl rfl rfl rfl rfl rfl) rfl ?_)
    (refine nx (aA (gN rfl) rfl rfl rfl rfl rfl) rfl ?_)
    show AWp _ _ _ _ _ _ _
    exact aT ⟨.inr rfl, _, Wk.refl _, rfl, rfl, rfl, rfl, trivial⟩
  | true =>
    rw [hok] at hr
    simp only [if_true, Option.some.injEq] at hr
    subst hr
    refine aS (aR ?_)
    (refine nx (aM (gN rfl) rfl rfl rfl rfl rfl) rfl ?_)
    (refine nx (aM (gN rfl) rfl rfl rfl rfl rfl) rfl ?_)
    (refine nx (a_build (gN rfl) rfl rfl rfl rfl rfl rfl rfl rfl rfl rfl rfl) rfl ?_)
    (refine nx (aM (gN rfl) rfl rfl rfl rfl rfl) rfl ?_)
    (refine nx (aM (gN rfl) rfl rfl rfl rfl rfl) rfl ?_)
    (refine nx (aM (gd_on rfl rfl rfl rfl (by first | rfl | assumption | (simp; done))) rfl rfl rfl rfl rfl) rfl ?_)
    (refine nx (a_callO (gd_on rfl rfl rfl rfl (by first | rfl | assumption | (simp; done))) rfl rfl rfl rfl rfl (hcl) (by repeat (first | exact trivial | refine ⟨rfl, ?_⟩)) (by first | rfl | kernel_rfl) (by first | rfl | kernel_rfl) (by first | rfl | kernel_rfl) (by first | rfl | kernel_rfl) (hnb_of (by first | rfl | kernel_rfl))) rfl ?_)
    (refine ⟨_, _, _, aPt (gN rfl) rfl rfl rfl rfl rfl ?hb rfl, rfl, ?_⟩; case hb => (first | rfl | assumption | (simp; done)))
    (refine nx (aSt (gN rfl) rfl rfl rfl rfl rfl rfl rfl rfl rfl rfl) rfl ?_)
    (refine nx (aA (gN rfl) rfl rfl rfl rfl rfl) rfl ?_)
    show AWp _ _ _ _ _ _ _
    exact aT ⟨.inr rfl, _, Wk.refl _, rfl, rfl, rfl, rfl, trivial⟩
theorem term_abs (n : Nat) : TermC n := by
  induction n using Nat.strongRecOn with
  | ind n ih =>
    cases n with
    | zero => intro d t r _ _ h; simp [rdX] at h
    | succ n => exact term_of n (parts_of n fun k hk => ih k (by omega))
end Go.Proofs.YtglbohajmccehaaDoor

namespace Go.Proofs.YtglbohajmccehaaDoor
open Go.RowKit
set_option linter.unusedVariables false
set_option linter.unusedSimpArgs false
theorem sq_segs {U : Nat → Nat → Prop} {w : World} : ∀ {zs : List CV} {xs : List Value}, Sq (zs.map fun c => Rep U w c) xs → ∃ segs : List (List Value), segs.flatten = xs ∧ zs.length = segs.length ∧ ∀ (i : Nat) (c : CV), zs[i]? = some c → ∃ seg, segs[i]? = some seg ∧ Rep U w c seg
  | [], xs, h => by
    have h : xs = [] := h
    exact ⟨[], by rw [h]; rfl, rfl, fun i c hi => by simp at hi⟩
  | z :: zs, xs, ⟨ys, zs', e, h1, h2⟩ => by
    obtain ⟨segs, a1, a2, a3⟩ := sq_segs h2
    refine ⟨ys :: segs, by rw [List.flatten_cons, a1, e], by simp [a2], fun i c hi => ?_⟩
    cases i with
    | zero => simp at hi; subst hi; exact ⟨ys, rfl, h1⟩
    | succ i => obtain ⟨seg, b1, b2⟩ := a3 i c (by simpa using hi); exact ⟨seg, by simpa using b1, b2⟩
section
variable {P : Program} {w0 : World} {U0 : UX} {nt : Nat} {ops : Array Oper} {o : Oper} {S : Nat → Option AV} {gs : List Nat} {d : Nat}
theorem a_box9N (nn : Nat) (hg : Gd w0 U0 nt ops o gs S) (hd : o.dst = some d) (hn : Nat.blt d nt = true) (h5 : Nat.blt d 100000 = true) {x : Operand} {ty : TypeId} {zs : List CV} {n q p} (ho : o.op = .box ty x) (hx : ev S x = some ⟨0, .row zs, n, q, p⟩) (hnil : (zs.all fun c => !isNilC c) = true) (hp : (zs.all fun c => Nat.blt 0 c.size) = true) (h100 : Nat.ble (CV.row zs).size 100 = true) (hbb : (Nat.blt nn 100000 || (Nat.ble 350000 nn && Nat.blt nn 400000)) = true) (hnf : ∀ v, U0.f (100000 + nn) = some v → False) : AOp P w0 U0 nt ops o (gs ++ rd x) [(nn, [])] S (fldsA nn zs 0 ++ [(d, .bp nn 0 []), (100000 + nn, .obj)]) := by
  intro s hs hN a w ⟨D, hv, h⟩ Q K hK
  rw [if_pos (hg s (fun k hk => hs k (List.mem_append_left _ hk)) a w D hv h)]
  have hd5 := bL h5
  have hbn : BN nn := by
    rcases Bool.or_eq_true_iff.1 hbb with h1 | h1
    · exact .inl (bL h1)
    · rw [Bool.and_eq_true] at h1; exact .inr ⟨Nat.le_of_ble_eq_true h1.1, bL h1.2⟩
  have hbn1 := hbn
  unfold BN at hbn1
  have hvr := ev_val h (fun k hk => hs k (List.mem_append_right _ hk)) hx
  have hcl : Rep (Us w0 U0 D) w (.row zs) (a.eval x).cells.toList := hvr.cells
  have he : (execOp a.eval o).run P w = .ok (.value (.pointer (some ⟨w.heap.size, 0, none⟩))) (w.alloc (.cells (a.eval x).cells ty)) := by
    generalize a.eval = ρ
    simp [execOp, ho, Instr.box, run_newVar]
  unfold Oper.wp
  rw [he, Oper.upon_value, hd]
  obtain ⟨cs, hcs⟩ : ∃ cs, cs = (a.eval x).cells := ⟨_, rfl⟩
  rw [← hcs] at hcl ⊢
  have hr := (hN (nn, []) (by simp)).nr
  have hG := h.newboxN (d := d) (av := .obj) hbn hnf hr (bL hn) hd5 (.inr rfl) (xs := cs.toList) ty (fun e => by cases e) (fun e => by cases e)
  rw [Array.toArray_toList] at hG
  have hb' : Below w.heap.size w (w.alloc (.cells cs ty)) := (Below.refl _ _).alloc (Nat.le_refl _) _
  have hkeep : ∀ b o v, Us w0 U0 D b o → w.cell? ⟨b, o, none⟩ = some v → Us w0 U0 D b o ∧ (w.alloc (.cells cs ty)).cell? ⟨b, o, none⟩ = some v := us_keep h.dlt hb' fun _ _ h => h
  have hcl2 := hcl.keep hkeep
  have hlen : cs.toList.length = (CV.row zs).size := hcl.len
  rw [rep_row] at hcl2
  obtain ⟨segs, e1, e4, e5⟩ := sq_segs hcl2
  suffices hfin : SimG w0 U0 nt (fldsA nn zs 0 ++ ((d, AV.bp nn 0 []) :: (100000 + nn, AV.obj) :: s)) (a.put (some d) (.pointer (some ⟨w.heap.size, 0, none⟩))) (w.alloc (.cells cs ty)) D (fun k => if k = 100000 + nn then .pointer (some ⟨w.heap.size, 0, none⟩) else hv k) by
    exact hK _ _ ⟨D, _, by rw [List.append_assoc]; exact hfin⟩
  refine hG.addFs (n := nn) (g := w.heap.size) hbn (by rw [lN (by omega), lS]) (fun q av h1 h2 => ?_) (by simp only [if_true]; rfl) e4 (fun i c hi => ?_) (fun i hi' => ?_) (fun c hc => ?_) (by rw [e1]; have := Nat.le_of_ble_eq_true h100; omega)
  · rw [lN (by unfold fKey; omega), lN (by unfold fKey; omega)] at h1
    have := (hr _ _ h1).2.1
    rw [fnm_key h2] at this
    exact this rfl
  · obtain ⟨seg, f1, f2⟩ := e5 i c hi
    refine ⟨seg, f1, f2, fun hni => ?_⟩
    have := List.all_eq_true.1 hnil c (List.mem_of_getElem? hi)
    rw [hni] at this
    cases this
  · rw [e1] at hi' ⊢
    rw [Nat.zero_add]
    have := alloc_new w (.cells cs ty)
    simp only [World.cell?, this]
    simp
  · exact bL (List.all_eq_true.1 hp c hc)
end
end Go.Proofs.YtglbohajmccehaaDoor
-- @STR@
namespace Go.Proofs.YtglbohajmccehaaDoor
open Go.RowKit
set_option linter.unusedVariables false
set_option linter.unusedSimpArgs false
set_option maxRecDepth 100000

noncomputable abbrev phZ : CV := .row [sv [], .lst []]
-- 
set_option maxHeartbeats 2000000 in
theorem lit_abs (n : Nat) (t : Tkn) (r : Se × Bool × Tkn) (ht : t.len ≤ 1000000) (hr : rdL n t = some r) : AFunO Tryd.prog 33 (tkS t) [.bp 350001 0 []] (.tup [r.1.cw, .b r.2.1]) (tkS r.2.2) := by
  unfold rdL at hr
  have ht1 := take_abs t [126] (rs_le ht)
  have l1 := takeT_len t [126]
  generalize takeT t [126] = A at *
  obtain ⟨ng, t1⟩ := A
  simp only at hr ht1 l1
  cases hq : rdX n 1 t1 none with
  | none => rw [hq] at hr; cases hr
  | some q =>
  rw [hq] at hr
  simp only at hr
  have hc := term_abs n 1 t1 q (by omega) (by omega) hq
  obtain ⟨l2, l3⟩ := (rdX_len n 1 t1).1 q hq
  have ht2 := take_abs q.2.2.2 [61] (rs_le (by omega))
  have l4 := takeT_len q.2.2.2 [61]
  refine afunO_of Tryd.func33 Tryd.ntmps33 rfl rfl rfl rfl rfl rfl ?_
  intro w U hU
  refine aS (aR ?_)
  (refine nx (a_alloc (gN rfl) rfl rfl rfl rfl rfl rfl rfl rfl rfl rfl) (by kernel_rfl) ?_)
  (refine nx (aA (gN rfl) rfl rfl rfl rfl rfl) rfl ?_)
  show AWp _ _ _ _ _ _ _
  refine aS (aR ?_)
  (refine nx (aM (gN rfl) rfl rfl rfl rfl rfl) rfl ?_)
  (refine nx (a_callO (gN rfl) rfl rfl rfl rfl rfl (ht1) (by repeat (first | exact trivial | refine ⟨rfl, ?_⟩)) (by first | rfl | kernel_rfl) (by first | rfl | kernel_rfl) (by first | rfl | kernel_rfl) (by first | rfl | kernel_rfl) (hnb_of (by first | rfl | kernel_rfl))) rfl ?_)
  (refine nx (aA (gN rfl) rfl rfl rfl rfl rfl) rfl ?_)
  show AWp _ _ _ _ _ _ _
  refine aS (aR ?_)
  (refine nx (aM (gN rfl) rfl rfl rfl rfl rfl) rfl ?_)
  (refine nx (a_callO (gN rfl) rfl rfl rfl rfl rfl (hc) (by repeat (first | exact trivial | refine ⟨rfl, ?_⟩)) (by first | rfl | kernel_rfl) (by first | rfl | kernel_rfl) (by first | rfl | kernel_rfl) (by first | rfl | kernel_rfl) (hnb_of (by first | rfl | kernel_rfl))) rfl ?_)
  (refine nx (aM (gN rfl) rfl rfl rfl rfl rfl) rfl ?_)
  (refine nx (aX (gN rfl) rfl rfl rfl rfl rfl rfl) rfl ?_)
  (refine nx (aX (gN rfl) rfl rfl rfl rfl rfl rfl) rfl ?_)
  (refine nx (a_alloc (gN rfl) rfl rfl rfl rfl rfl rfl rfl rfl rfl rfl) (by kernel_rfl) ?_)
  (refine nx (aSt (gN rfl) rfl rfl rfl rfl rfl rfl rfl rfl rfl rfl) rfl ?_)
  (refine nx (aA (gN rfl) rfl rfl rfl rfl rfl) rfl ?_)
  show AWp _ _ _ _ _ _ _
  refine AWp.wk (wk_sub (s' := (0, .bp 350001 0 []) :: (2, .bp 2 0 []) :: (100002, .bx Se.z.cw) :: (4, .val (.b ng)) :: (5, .bp 5 0 []) :: (100005, .bx q.1.cw) :: (6, .val (.b q.2.2.1)) :: tkS q.2.2.2) ⟨rfl, rfl, rfl, rfl, rfl, rfl, rfl, rfl, rfl, rfl, trivial⟩) ?_
  cases hok : q.2.2.1 with
  | false =>
    rw [hok] at hr
    simp only [Bool.false_eq_true, if_false, Option.some.injEq] at hr
    subst hr
    refine aS (aS (aR ?_))
    (refine nx (aM (gN rfl) rfl rfl rfl rfl rfl) rfl ?_)
    (refine nx (a_not (gN rfl) rfl rfl rfl rfl rfl) rfl ?_)
    show AWp _ _ _ _ _ _ _
    refine aC rfl (fun h => ?_) (fun h => by cases h)
    refine aS (aR ?_)
    (refine nx (a_build (gN rfl) rfl rfl rfl rfl rfl rfl rfl rfl rfl rfl rfl) rfl ?_)
    (refine nx (aSt (gN rfl) rfl rfl rfl rfl rfl rfl rfl rfl rfl rfl) rfl ?_)
    (refine nx (aA (gN rfl) rfl rfl rfl rfl rfl) rfl ?_)
    show AWp _ _ _ _ _ _ _
    exact aT ⟨.inr rfl, _, Wk.refl _, rfl, rfl, rfl, rfl, trivial⟩
  | true =>
  rw [hok] at hr
  have l3 := l3 hok
  simp only [if_true] at hr
  generalize takeT q.2.2.2 [61] = B at *
  obtain ⟨eqb, t3⟩ := B
  simp only at hr ht2 l4
  refine aS (aS (aR ?_))
  (refine nx (aM (gN rfl) rfl rfl rfl rfl rfl) rfl ?_)
  (refine nx (a_not (gN rfl) rfl rfl rfl rfl rfl) rfl ?_)
  show AWp _ _ _ _ _ _ _
  refine aC rfl (fun h => by cases h) (fun h => aK ?_)
  show AWp _ _ _ _ _ _ _
  -- what stands behind the sign
  have tail : ∀ (ng2 : Bool) (t4 : Tkn), t4.len ≤ t.len → (match rdX n 1 t4 none with | none => none | some q2 => some ((⟨ng2, false, q.1, q2.1⟩ : Se), q2.2.2.1, q2.2.2.2)) = some r → ∃ q2, rdX n 1 t4 none = some q2 ∧ r = (⟨ng2, false, q.1, q2.1⟩, q2.2.2.1, q2.2.2.2) ∧ AFunO Tryd.prog 39 (tkS t4) [.bp 350001 0 [], .val (.i 1)] (.tup [q2.1.cw, .b q2.2.2.1]) (tkS q2.2.2.2) := fun ng2 t4 hl h => by
    cases hx : rdX n 1 t4 none with
    | none => rw [hx] at h; cases h
    | some q2 =>
      rw [hx] at h
      simp only [Option.some.injEq] at h
      exact ⟨q2, rfl, h.symm, term_abs n 1 t4 q2 (by omega) (by omega) hx⟩
  cases eqb with
  | true =>
    simp only [if_true] at hr
    obtain ⟨q2, hx, rfl, hc2⟩ := tail ng t3 (by omega) hr
    refine aS (aB (aS (aR ?_)))
    (refine nx (aM (gN rfl) rfl rfl rfl rfl rfl) rfl ?_)
    (refine nx (a_callO (gN rfl) rfl rfl rfl rfl rfl (ht2) (by repeat (first | exact trivial | refine ⟨rfl, ?_⟩)) (by first | rfl | kernel_rfl) (by first | rfl | kernel_rfl) (by first | rfl | kernel_rfl) (by first | rfl | kernel_rfl) (hnb_of (by first | rfl | kernel_rfl))) rfl ?_)
    (refine nx (aA (gN rfl) rfl rfl rfl rfl rfl) rfl ?_)
    show AWp _ _ _ _ _ _ _
    refine aC rfl (fun h => aK ?_) (fun h => by cases h)
    show AWp _ _ _ _ _ _ _
    refine AWp.wk (wk_sub (s' := (0, .bp 350001 0 []) :: (2, .bp 2 0 []) :: (100002, .bx Se.z.cw) :: (4, .val (.b ng)) :: (5, .bp 5 0 []) :: (100005, .bx q.1.cw) :: tkS t3) ⟨rfl, rfl, rfl, rfl, rfl, rfl, rfl, rfl, rfl, trivial⟩) ?_
    refine aS (aR ?_)
    (refine nx (aM (gN rfl) rfl rfl rfl rfl rfl) rfl ?_)
    (refine nx (a_callO (gN rfl) rfl rfl rfl rfl rfl (hc2) (by repeat (first | exact trivial | refine ⟨rfl, ?_⟩)) (by first | rfl | kernel_rfl) (by first | rfl | kernel_rfl) (by first | rfl | kernel_rfl) (by first | rfl | kernel_rfl) (hnb_of (by first | rfl | kernel_rfl))) rfl ?_)
    (refine nx (aM (gN rfl) rfl rfl rfl rfl rfl) rfl ?_)
    (refine nx (aX (gN rfl) rfl rfl rfl rfl rfl rfl) rfl ?_)
    (refine nx (aX (gN rfl) rfl rfl rfl rfl rfl rfl) rfl ?_)
    (refine nx (a_alloc (gN rfl) rfl rfl rfl rfl rfl rfl rfl rfl rfl rfl) (by kernel_rfl) ?_)
    (refine nx (aSt (gN rfl) rfl rfl rfl rfl rfl rfl rfl rfl rfl rfl) rfl ?_)
    (refine nx (aA (gN rfl) rfl rfl rfl rfl rfl) rfl ?_)
    show AWp _ _ _ _ _ _ _
    refine aS (aR ?_)
    (refine nx (aM (gN rfl) rfl rfl rfl rfl rfl) rfl ?_)
    (refine nx (aL (gN rfl) rfl rfl rfl rfl rfl rfl rfl rfl rfl rfl rfl rfl) rfl ?_)
    (refine nx (aL (gN rfl) rfl rfl rfl rfl rfl rfl rfl rfl rfl rfl rfl rfl) rfl ?_)
    (refine nx (a_build (gN rfl) rfl rfl rfl rfl rfl rfl rfl rfl rfl rfl rfl) rfl ?_)
    (refine nx (aM (gN rfl) rfl rfl rfl rfl rfl) rfl ?_)
    (refine nx (aSt (gN rfl) rfl rfl rfl rfl rfl rfl rfl rfl rfl rfl) rfl ?_)
    (refine nx (aA (gN rfl) rfl rfl rfl rfl rfl) rfl ?_)
    show AWp _ _ _ _ _ _ _
    exact aT ⟨.inr rfl, _, Wk.refl _, rfl, rfl, rfl, rfl, trivial⟩
  | false =>
    simp only [Bool.false_eq_true, if_false] at hr
    have ht3 := take_abs t3 unlB (rs_le (by omega))
    have l5 := takeT_len t3 unlB
    generalize takeT t3 unlB = C at *
    obtain ⟨ub, t4⟩ := C
    simp only at hr ht3 l5
    refine aS (aB (aS (aR ?_)))
    (refine nx (aM (gN rfl) rfl rfl rfl rfl rfl) rfl ?_)
    (refine nx (a_callO (gN rfl) rfl rfl rfl rfl rfl (ht2) (by repeat (first | exact trivial | refine ⟨rfl, ?_⟩)) (by first | rfl | kernel_rfl) (by first | rfl | kernel_rfl) (by first | rfl | kernel_rfl) (by first | rfl | kernel_rfl) (hnb_of (by first | rfl | kernel_rfl))) rfl ?_)
    (refine nx (aA (gN rfl) rfl rfl rfl rfl rfl) rfl ?_)
    show AWp _ _ _ _ _ _ _
    refine aC rfl (fun h => by cases h) (fun h => ?_)
    refine AWp.wk (wk_sub (s' := (0, .bp 350001 0 []) :: (2, .bp 2 0 []) :: (100002, .bx Se.z.cw) :: (4, .val (.b ng)) :: (5, .bp 5 0 []) :: (100005, .bx q.1.cw) :: tkS t3) ⟨rfl, rfl, rfl, rfl, rfl, rfl, rfl, rfl, rfl, trivial⟩) ?_
    cases ub with
    | true =>
      simp only [if_true] at hr
      obtain ⟨q2, hx, rfl, hc2⟩ := tail (!ng) t4 (by omega) hr
      refine aS (aR ?_)
      (refine nx (aM (gN rfl) rfl rfl rfl rfl rfl) rfl ?_)
      (refine nx (a_callO (gN rfl) rfl rfl rfl rfl rfl (ht3) (by repeat (first | exact trivial | refine ⟨rfl, ?_⟩)) (by first | rfl | kernel_rfl) (by first | rfl | kernel_rfl) (by first | rfl | kernel_rfl) (by first | rfl | kernel_rfl) (hnb_of (by first | rfl | kernel_rfl))) rfl ?_)
      (refine nx (aA (gN rfl) rfl rfl rfl rfl rfl) rfl ?_)
      show AWp _ _ _ _ _ _ _
      refine aC rfl (fun h => ?_) (fun h => by cases h)
      refine aR ?_
      (refine nx (aM (gN rfl) rfl rfl rfl rfl rfl) rfl ?_)
      (refine nx (a_not (gN rfl) rfl rfl rfl rfl rfl) rfl ?_)
      (refine nx (aA (gN rfl) rfl rfl rfl rfl rfl) rfl ?_)
      show AWp _ _ _ _ _ _ _
      refine AWp.wk (wk_sub (s' := (0, .bp 350001 0 []) :: (2, .bp 2 0 []) :: (100002, .bx Se.z.cw) :: (4, .val (.b (!ng))) :: (5, .bp 5 0 []) :: (100005, .bx q.1.cw) :: tkS t4) ⟨rfl, rfl, rfl, rfl, rfl, rfl, rfl, rfl, rfl, trivial⟩) ?_
      refine aS (aR ?_)
      (refine nx (aM (gN rfl) rfl rfl rfl rfl rfl) rfl ?_)
      (refine nx (a_callO (gN rfl) rfl rfl rfl rfl rfl (hc2) (by repeat (first | exact trivial | refine ⟨rfl, ?_⟩)) (by first | rfl | kernel_rfl) (by first | rfl | kernel_rfl) (by first | rfl | kernel_rfl) (by first | rfl | kernel_rfl) (hnb_of (by first | rfl | kernel_rfl))) rfl ?_)
      (refine nx (aM (gN rfl) rfl rfl rfl rfl rfl) rfl ?_)
      (refine nx (aX (gN rfl) rfl rfl rfl rfl rfl rfl) rfl ?_)
      (refine nx (aX (gN rfl) rfl rfl rfl rfl rfl rfl) rfl ?_)
      (refine nx (a_alloc (gN rfl) rfl rfl rfl rfl rfl rfl rfl rfl rfl rfl) (by kernel_rfl) ?_)
      (refine nx (aSt (gN rfl) rfl rfl rfl rfl rfl rfl rfl rfl rfl rfl) rfl ?_)
      (refine nx (aA (gN rfl) rfl rfl rfl rfl rfl) rfl ?_)
      show AWp _ _ _ _ _ _ _
      refine aS (aR ?_)
      (refine nx (aM (gN rfl) rfl rfl rfl rfl rfl) rfl ?_)
      (refine nx (aL (gN rfl) rfl rfl rfl rfl rfl rfl rfl rfl rfl rfl rfl rfl) rfl ?_)
      (refine nx (aL (gN rfl) rfl rfl rfl rfl rfl rfl rfl rfl rfl rfl rfl rfl) rfl ?_)
      (refine nx (a_build (gN rfl) rfl rfl rfl rfl rfl rfl rfl rfl rfl rfl rfl) rfl ?_)
      (refine nx (aM (gN rfl) rfl rfl rfl rfl rfl) rfl ?_)
      (refine nx (aSt (gN rfl) rfl rfl rfl rfl rfl rfl rfl rfl rfl rfl) rfl ?_)
      (refine nx (aA (gN rfl) rfl rfl rfl rfl rfl) rfl ?_)
      show AWp _ _ _ _ _ _ _
      exact aT ⟨.inr rfl, _, Wk.refl _, rfl, rfl, rfl, rfl, trivial⟩
    | false =>
      simp only [Bool.false_eq_true, if_false, Option.some.injEq] at hr
      subst hr
      have hnm : q.1.name ≠ [] := by
        cases n with
        | zero => simp [rdX] at hq
        | succ n =>
          rw [rdX] at hq
          have hne : (nameT t1).2.1 = true → (nameT t1).1 ≠ [] := fun h => by
            unfold nameT at h ⊢
            split
            · rename_i h2
              unfold isNmL at h2
              intro e
              have e : t1.nx = [] := e
              rw [e] at h2
              cases h2
            · rename_i h2; rw [if_neg h2] at h; cases h
          split at hq
          · cases hq; cases hok
          · split at hq
            · cases hq; exact hne hok
            · rename_i hok2
              have hok2 : (nameT t1).2.1 = true := by
                cases hx : (nameT t1).2.1 with
                | true => rfl
                | false => rw [hx] at hok2; simp at hok2
              split at hq
              · split at hq
                · cases hq
                · split at hq <;> cases hq <;> exact hne hok2
              · cases hq; exact hne hok2
      have c1 := isSm_abs w q.1.name hnm
      refine aS (aR ?_)
      (refine nx (aM (gN rfl) rfl rfl rfl rfl rfl) rfl ?_)
      (refine nx (a_callO (gN rfl) rfl rfl rfl rfl rfl (ht3) (by repeat (first | exact trivial | refine ⟨rfl, ?_⟩)) (by first | rfl | kernel_rfl) (by first | rfl | kernel_rfl) (by first | rfl | kernel_rfl) (by first | rfl | kernel_rfl) (hnb_of (by first | rfl | kernel_rfl))) rfl ?_)
      (refine nx (aA (gN rfl) rfl rfl rfl rfl rfl) rfl ?_)
      show AWp _ _ _ _ _ _ _
      refine aC rfl (fun h => by cases h) (fun h => ?_)
      refine aS (aD (by kernel_rfl) (by kernel_rfl) ?_)
      (refine nx (aM (gN rfl) rfl rfl rfl rfl rfl) rfl ?_)
      (refine nx (aL (gN rfl) rfl rfl rfl rfl rfl rfl rfl rfl rfl rfl rfl rfl) rfl ?_)
      (refine nx (a_build (gN rfl) rfl rfl rfl rfl rfl rfl rfl rfl rfl rfl rfl) rfl ?_)
      (refine nx (aF (gN rfl) rfl rfl rfl rfl rfl rfl rfl rfl rfl) rfl ?_)
      (refine nx (aLb (gN rfl) rfl rfl rfl rfl rfl rfl rfl rfl rfl rfl rfl rfl) rfl ?_)
      (refine nx (a_call (gN rfl) rfl rfl rfl rfl rfl (c1)) rfl ?_)
      (refine nx (aSt (gN rfl) rfl rfl rfl rfl rfl rfl rfl rfl rfl rfl) rfl ?_)
      (refine nx (aA (gN rfl) rfl rfl rfl rfl rfl) rfl ?_)
      refine ⟨by kernel_rfl, ?_⟩
      show AWp _ _ _ _ _ _ _
      exact aT ⟨.inr rfl, _, Wk.refl _, rfl, rfl, rfl, rfl, trivial⟩
end Go.Proofs.YtglbohajmccehaaDoor

