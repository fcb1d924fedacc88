/-
  PsLt12 PsRel PsOkT PsLsp AbNilF
-/
import Derived.Test.YtglbohajmccehaaDoorMg6
import Derived.Test.YtglbohajmccehaaDoorMg5
import Derived.Test.YtglbohajmccehaaDoorMg3
-- @STR@
namespace Go.Proofs.YtglbohajmccehaaDoor
open Go.RowKit
set_option linter.unusedVariables false
set_option linter.unusedSimpArgs false
set_option maxRecDepth 100000

def skBad (r : Option (Nat × Nat)) : Bool := match r with | none => true | some q => decide (32 < q.2)
theorem skR_bad {r : Option (Nat × Nat)} (h : skBad r = true) : decide ((skR r).1 < 0) = true ∨ (decide ((skR r).1 < 0) = false ∧ decide ((skR r).2 > 32) = true) := by
  cases r with
  | none => left; rfl
  | some q =>
    right
    have h : 32 < q.2 := of_decide_eq_true h
    exact ⟨decide_eq_false (by show ¬ (q.1 : Int) < 0; omega), decide_eq_true (by show (q.2 : Int) > 32; omega)⟩
theorem skR_good (a m : Nat) (h : m ≤ 32) : decide ((skR (some (a, m))).1 < 0) = false ∧ decide ((skR (some (a, m))).2 > 32) = false := ⟨decide_eq_false (by show ¬ (a : Int) < 0; omega), decide_eq_false (by show ¬ (m : Int) > 32; omega)⟩
-- 
set_option maxHeartbeats 4000000 in
theorem litA0_abs (L : List By) (hL : L.length ≤ 50000) (I : Nat) (s : Rs) (hs : s.bad = false) (x : By) (hx : L[I]? = some x) (hneg : decide (x = [126]) = false) (n : Nat) (r : Option (Nat × Nat)) (hr : skI L n 1 I none = some r) (hbad : skBad r = true) :
    AFunO Tryd.prog 18 (rdR L I s) [.bp 350001 0 []] (.val (.row [.b false, .row [.i 0, .lst []], .row [.i 0, .lst []]])) (rdR L I ⟨true, s.g, s.vs⟩) := by
  have hIl : I < L.length := (List.getElem?_eq_some_iff.1 hx).1
  obtain ⟨sb, sg, sv_⟩ := s
  have hs : sb = false := hs
  subst hs
  have his := is12_abs L I false sg sv_ [126] x hx
  rw [hneg] at his
  simp only [Bool.not_false, Bool.true_and] at his
  have hsk := skip12_abs L (by omega) I false sg sv_ n 1 I _ (by omega) hr
  refine afunO_of Tryd.func18 Tryd.ntmps18 rfl rfl rfl rfl rfl rfl ?_
  intro w U hU
  refine aS (aR ?_)
  (refine nx (a_alloc (gN rfl) rfl rfl rfl rfl rfl rfl rfl rfl rfl rfl) (by kernel_rfl) ?_)
  show AWp _ _ _ _ _ _ _
  refine aS (aR ?_)
  (refine nx (aM (gN rfl) rfl rfl rfl rfl rfl) rfl ?_)
  (refine nx (a_callO (gN rfl) rfl rfl rfl rfl rfl (his) (by repeat (first | exact trivial | refine ⟨rfl, ?_⟩)) (by first | rfl | kernel_rfl) (by first | rfl | kernel_rfl) (by first | rfl | kernel_rfl) (by first | rfl | kernel_rfl) (hnb_of (by first | rfl | kernel_rfl))) rfl ?_)
  (refine nx (a_build (gN rfl) rfl rfl rfl rfl rfl rfl rfl rfl rfl rfl rfl) rfl ?_)
  (refine nx (a_alloc (gN rfl) rfl rfl rfl rfl rfl rfl rfl rfl rfl rfl) (by kernel_rfl) ?_)
  (refine nx (aSt (gN rfl) rfl rfl rfl rfl rfl rfl rfl rfl rfl rfl) rfl ?_)
  show AWp _ _ _ _ _ _ _
  refine aS (aS (aR ?_))
  (refine nx (aF (gN rfl) rfl rfl rfl rfl rfl rfl rfl rfl rfl) rfl ?_)
  (refine nx (aLb (gN rfl) rfl rfl rfl rfl rfl rfl rfl rfl rfl rfl rfl rfl) rfl ?_)
  show AWp _ _ _ _ _ _ _
  refine aC rfl (fun h => by cases h) (fun _ => aK ?_)
  show AWp _ _ _ _ _ _ _
  refine aS (aR ?_)
  (refine nx (aM (gN rfl) rfl rfl rfl rfl rfl) rfl ?_)
  (refine nx (aM (gN rfl) rfl rfl rfl rfl rfl) rfl ?_)
  (refine nx (aNc (gN rfl) rfl rfl rfl rfl rfl) rfl ?_)
  (refine nx (aF (gN rfl) rfl rfl rfl rfl rfl rfl rfl rfl rfl) rfl ?_)
  (refine nx (aLf (gN rfl) rfl rfl rfl rfl rfl rfl rfl rfl rfl rfl rfl rfl rfl) rfl ?_)
  (refine nx (a_callO (gN rfl) rfl rfl rfl rfl rfl (hsk) (by repeat (first | exact trivial | refine ⟨rfl, ?_⟩)) (by first | rfl | kernel_rfl) (by first | rfl | kernel_rfl) (by first | rfl | kernel_rfl) (by first | rfl | kernel_rfl) (hnb_of (by first | rfl | kernel_rfl))) rfl ?_)
  (refine nx (aM (gN rfl) rfl rfl rfl rfl rfl) rfl ?_)
  (refine nx (aX (gN rfl) rfl rfl rfl rfl rfl rfl) rfl ?_)
  (refine nx (aX (gN rfl) rfl rfl rfl rfl rfl rfl) rfl ?_)
  (refine nx (aA (gN rfl) rfl rfl rfl rfl rfl) rfl ?_)
  (refine nx (aA (gN rfl) rfl rfl rfl rfl rfl) rfl ?_)
  show AWp _ _ _ _ _ _ _
  rcases skR_bad hbad with g | ⟨g, g2⟩
  · refine aS (aS (aR ?_))
    (refine nx (aM (gN rfl) rfl rfl rfl rfl rfl) rfl ?_)
    (refine nx (a_lss (gN rfl) rfl rfl rfl rfl rfl rfl) rfl ?_)
    (refine nx (aM (gN rfl) rfl rfl rfl rfl rfl) rfl ?_)
    (refine ⟨_, _, _, a_off (go_off rfl rfl rfl rfl (by first | rfl | assumption | (simp; done) | (simp [*]; done))) rfl rfl rfl, rfl, ?_⟩)
    (refine ⟨_, _, _, a_off (go_off rfl rfl rfl rfl (by first | rfl | assumption | (simp; done) | (simp [*]; done))) rfl rfl rfl, rfl, ?_⟩)
    (refine ⟨_, _, _, aPt (gN rfl) rfl rfl rfl rfl rfl ?hb rfl, rfl, ?_⟩; case hb => (first | rfl | assumption | (simp; done)))
    show AWp _ _ _ _ _ _ _
    refine aC rfl (fun _ => ?_) (fun h => by cases h)
    refine aS (aR ?_)
    (refine nx (aM (gN rfl) rfl rfl rfl rfl rfl) rfl ?_)
    (refine nx (aNc (gN rfl) rfl rfl rfl rfl rfl) rfl ?_)
    (refine nx (aF (gN rfl) rfl rfl rfl rfl rfl rfl rfl rfl rfl) rfl ?_)
    (refine nx (a_store_fld (gN rfl) rfl rfl rfl rfl rfl rfl rfl rfl rfl rfl rfl rfl) rfl ?_)
    show AWp _ _ _ _ _ _ _
    refine aS (aR ?_)
    (refine nx (aL (gN rfl) rfl rfl rfl rfl rfl rfl rfl rfl rfl rfl rfl rfl) rfl ?_)
    (refine nx (aSt (gN rfl) rfl rfl rfl rfl rfl rfl rfl rfl rfl rfl) rfl ?_)
    show AWp _ _ _ _ _ _ _
    exact aT ⟨.inr rfl, _, Wk.refl _, rfl, rfl, rfl, rfl, rfl, rfl, rfl, rfl, rfl, rfl, rfl, rfl, rfl, trivial⟩
  · refine aS (aS (aR ?_))
    (refine nx (aM (gN rfl) rfl rfl rfl rfl rfl) rfl ?_)
    (refine nx (a_lss (gN rfl) rfl rfl rfl rfl rfl rfl) rfl ?_)
    (refine nx (aM (gN rfl) rfl rfl rfl rfl rfl) rfl ?_)
    (refine nx (aM (gd_on rfl rfl rfl rfl (by first | rfl | assumption | (simp; done))) rfl rfl rfl rfl rfl) rfl ?_)
    (refine nx (a_gtr (gd_on rfl rfl rfl rfl (by first | rfl | assumption | (simp; done))) rfl rfl rfl rfl rfl rfl) rfl ?_)
    (refine ⟨_, _, _, aPf (gN rfl) rfl rfl rfl rfl rfl ?hb rfl, rfl, ?_⟩; case hb => (first | rfl | assumption | (simp; done)))
    show AWp _ _ _ _ _ _ _
    refine aC rfl (fun _ => ?_) (fun h => ?_)
    · refine aS (aR ?_)
      (refine nx (aM (gN rfl) rfl rfl rfl rfl rfl) rfl ?_)
      (refine nx (aNc (gN rfl) rfl rfl rfl rfl rfl) rfl ?_)
      (refine nx (aF (gN rfl) rfl rfl rfl rfl rfl rfl rfl rfl rfl) rfl ?_)
      (refine nx (a_store_fld (gN rfl) rfl rfl rfl rfl rfl rfl rfl rfl rfl rfl rfl rfl) rfl ?_)
      show AWp _ _ _ _ _ _ _
      refine aS (aR ?_)
      (refine nx (aL (gN rfl) rfl rfl rfl rfl rfl rfl rfl rfl rfl rfl rfl rfl) rfl ?_)
      (refine nx (aSt (gN rfl) rfl rfl rfl rfl rfl rfl rfl rfl rfl rfl) rfl ?_)
      show AWp _ _ _ _ _ _ _
      exact aT ⟨.inr rfl, _, Wk.refl _, rfl, rfl, rfl, rfl, rfl, rfl, rfl, rfl, rfl, rfl, rfl, rfl, rfl, trivial⟩
    · have h : decide ((skR r).2 > 32) = false := h
      rw [g2] at h; cases h
-- 
set_option maxHeartbeats 4000000 in
theorem litB0_abs (L : List By) (hL : L.length ≤ 50000) (I : Nat) (s : Rs) (hs : s.bad = false) (x : By) (hx : L[I]? = some x) (hneg : decide (x = [126]) = false) (n : Nat) (r : Option (Nat × Nat)) (hr : skI L n 1 I none = some r) (at_ m : Nat) (hr2 : r = some (at_, m)) (hm : m ≤ 32) (y : By) (hy : L[at_]? = some y) (hy1 : y ≠ [61]) (hy2 : y ≠ [33, 61]) (t1 : Tm) (s1 : Rs) (I1 : Nat) (ht1 : AFunO Tryd.prog 29 (rdR L I s) [.bp 350001 0 [], .val (.b true)] (.val t1.cw) (rdR L I1 s1)) :
    AFunO Tryd.prog 18 (rdR L I s) [.bp 350001 0 []] (.val (.row [.b false, t1.cw, .row [.i 0, .lst []]])) (rdR L I1 s1) := by
  subst hr2
  have hIl : I < L.length := (List.getElem?_eq_some_iff.1 hx).1
  obtain ⟨sb, sg, sv_⟩ := s
  have hs : sb = false := hs
  subst hs
  have his := is12_abs L I false sg sv_ [126] x hx
  rw [hneg] at his
  simp only [Bool.not_false, Bool.true_and] at his
  have hsk := skip12_abs L (by omega) I false sg sv_ n 1 I _ (by omega) hr
  simp only [skR] at hsk
  refine afunO_of Tryd.func18 Tryd.ntmps18 rfl rfl rfl rfl rfl rfl ?_
  intro w U hU
  refine aS (aR ?_)
  (refine nx (a_alloc (gN rfl) rfl rfl rfl rfl rfl rfl rfl rfl rfl rfl) (by kernel_rfl) ?_)
  show AWp _ _ _ _ _ _ _
  refine aS (aR ?_)
  (refine nx (aM (gN rfl) rfl rfl rfl rfl rfl) rfl ?_)
  (refine nx (a_callO (gN rfl) rfl rfl rfl rfl rfl (his) (by repeat (first | exact trivial | refine ⟨rfl, ?_⟩)) (by first | rfl | kernel_rfl) (by first | rfl | kernel_rfl) (by first | rfl | kernel_rfl) (by first | rfl | kernel_rfl) (hnb_of (by first | rfl | kernel_rfl))) rfl ?_)
  (refine nx (a_build (gN rfl) rfl rfl rfl rfl rfl rfl rfl rfl rfl rfl rfl) rfl ?_)
  (refine nx (a_alloc (gN rfl) rfl rfl rfl rfl rfl rfl rfl rfl rfl rfl) (by kernel_rfl) ?_)
  (refine nx (aSt (gN rfl) rfl rfl rfl rfl rfl rfl rfl rfl rfl rfl) rfl ?_)
  show AWp _ _ _ _ _ _ _
  refine aS (aS (aR ?_))
  (refine nx (aF (gN rfl) rfl rfl rfl rfl rfl rfl rfl rfl rfl) rfl ?_)
  (refine nx (aLb (gN rfl) rfl rfl rfl rfl rfl rfl rfl rfl rfl rfl rfl rfl) rfl ?_)
  show AWp _ _ _ _ _ _ _
  refine aC rfl (fun h => by cases h) (fun _ => aK ?_)
  show AWp _ _ _ _ _ _ _
  refine aS (aR ?_)
  (refine nx (aM (gN rfl) rfl rfl rfl rfl rfl) rfl ?_)
  (refine nx (aM (gN rfl) rfl rfl rfl rfl rfl) rfl ?_)
  (refine nx (aNc (gN rfl) rfl rfl rfl rfl rfl) rfl ?_)
  (refine nx (aF (gN rfl) rfl rfl rfl rfl rfl rfl rfl rfl rfl) rfl ?_)
  (refine nx (aLf (gN rfl) rfl rfl rfl rfl rfl rfl rfl rfl rfl rfl rfl rfl rfl) rfl ?_)
  (refine nx (a_callO (gN rfl) rfl rfl rfl rfl rfl (hsk) (by repeat (first | exact trivial | refine ⟨rfl, ?_⟩)) (by first | rfl | kernel_rfl) (by first | rfl | kernel_rfl) (by first | rfl | kernel_rfl) (by first | rfl | kernel_rfl) (hnb_of (by first | rfl | kernel_rfl))) rfl ?_)
  (refine nx (aM (gN rfl) rfl rfl rfl rfl rfl) rfl ?_)
  (refine nx (aX (gN rfl) rfl rfl rfl rfl rfl rfl) rfl ?_)
  (refine nx (aX (gN rfl) rfl rfl rfl rfl rfl rfl) rfl ?_)
  (refine nx (aA (gN rfl) rfl rfl rfl rfl rfl) rfl ?_)
  (refine nx (aA (gN rfl) rfl rfl rfl rfl rfl) rfl ?_)
  show AWp _ _ _ _ _ _ _
  obtain ⟨g, g2⟩ : decide ((at_ : Int) < 0) = false ∧ decide ((m : Int) > 32) = false := skR_good at_ m hm
  have hatl0 : at_ < L.length := (List.getElem?_eq_some_iff.1 hy).1
  refine aS (aS (aR ?_))
  (refine nx (aM (gN rfl) rfl rfl rfl rfl rfl) rfl ?_)
  (refine nx (a_lss (gN rfl) rfl rfl rfl rfl rfl rfl) rfl ?_)
  (refine nx (aM (gN rfl) rfl rfl rfl rfl rfl) rfl ?_)
  (refine nx (aM (gd_on rfl rfl rfl rfl (by first | rfl | assumption | (simp; done))) rfl rfl rfl rfl rfl) rfl ?_)
  (refine nx (a_gtr (gd_on rfl rfl rfl rfl (by first | rfl | assumption | (simp; done))) rfl rfl rfl rfl rfl rfl) rfl ?_)
  (refine ⟨_, _, _, aPf (gN rfl) rfl rfl rfl rfl rfl ?hb rfl, rfl, ?_⟩; case hb => (first | rfl | assumption | (simp; done)))
  show AWp _ _ _ _ _ _ _
  refine aC rfl (fun h => ?_) (fun h => aK ?_)
  · have h : decide ((m : Int) > 32) = true := h
    rw [g2] at h; cases h
  show AWp _ _ _ _ _ _ _
  have hatl : at_ < L.length := (List.getElem?_eq_some_iff.1 hy).1
  have hy' := sv_at hy
  have hsv := svs_size L
  refine aS (aR ?_)
  (refine nx (aM (gN rfl) rfl rfl rfl rfl rfl) rfl ?_)
  (refine nx (aNc (gN rfl) rfl rfl rfl rfl rfl) rfl ?_)
  (refine nx (aF (gN rfl) rfl rfl rfl rfl rfl rfl rfl rfl rfl) rfl ?_)
  (refine nx (aLf (gN rfl) rfl rfl rfl rfl rfl rfl rfl rfl rfl rfl rfl rfl rfl) rfl ?_)
  (refine nx (aM (gN rfl) rfl rfl rfl rfl rfl) rfl ?_)
  (refine nx (a_index (j := at_) (gN rfl) rfl rfl rfl rfl rfl rfl rfl rfl rfl (hy') rfl (hsv)) rfl ?_)
  (refine nx (a_load_ad (gN rfl) rfl rfl rfl rfl rfl rfl rfl rfl rfl) rfl ?_)
  (refine nx (aA (gN rfl) rfl rfl rfl rfl rfl) rfl ?_)
  show AWp _ _ _ _ _ _ _
  have g3 : (!decide (y = [61])) = true := by rw [decide_eq_false hy1]; rfl
  have g4 : (!decide (y = [33, 61])) = true := by rw [decide_eq_false hy2]; rfl
  refine aS (aS (aR ?_))
  (refine nx (aM (gN rfl) rfl rfl rfl rfl rfl) rfl ?_)
  (refine nx (a_sneq (gN rfl) rfl rfl rfl rfl rfl rfl rfl) rfl ?_)
  (refine nx (aM (gN rfl) rfl rfl rfl rfl rfl) rfl ?_)
  (refine nx (aM (gd_on rfl rfl rfl rfl (by first | rfl | assumption | (simp; done))) rfl rfl rfl rfl rfl) rfl ?_)
  (refine nx (a_sneq (gd_on rfl rfl rfl rfl (by first | rfl | assumption | (simp; done))) rfl rfl rfl rfl rfl rfl rfl) rfl ?_)
  (refine ⟨_, _, _, aPt (gN rfl) rfl rfl rfl rfl rfl ?hb rfl, rfl, ?_⟩; case hb => (first | rfl | assumption | (simp; done)))
  show AWp _ _ _ _ _ _ _
  refine aC rfl (fun _ => ?_) (fun h => ?_)
  · refine aS (aR ?_)
    (refine nx (aM (gN rfl) rfl rfl rfl rfl rfl) rfl ?_)
    (refine nx (a_callO (gN rfl) rfl rfl rfl rfl rfl (ht1) (by repeat (first | exact trivial | refine ⟨rfl, ?_⟩)) (by first | rfl | kernel_rfl) (by first | rfl | kernel_rfl) (by first | rfl | kernel_rfl) (by first | rfl | kernel_rfl) (hnb_of (by first | rfl | kernel_rfl))) rfl ?_)
    (refine nx (aF (gN rfl) rfl rfl rfl rfl rfl rfl rfl rfl rfl) rfl ?_)
    (refine nx (a_store (gN rfl) rfl rfl rfl rfl rfl rfl rfl rfl rfl rfl) rfl ?_)
    show AWp _ _ _ _ _ _ _
    refine aS (aR ?_)
    (refine nx (aL (gN rfl) rfl rfl rfl rfl rfl rfl rfl rfl rfl rfl rfl rfl) rfl ?_)
    (refine nx (aSt (gN rfl) rfl rfl rfl rfl rfl rfl rfl rfl rfl rfl) rfl ?_)
    show AWp _ _ _ _ _ _ _
    exact aT ⟨.inr rfl, _, Wk.refl _, rfl, rfl, rfl, rfl, rfl, rfl, rfl, rfl, rfl, rfl, rfl, rfl, rfl, trivial⟩
  · have h : (!decide (y = [33, 61])) = false := h
    rw [g4] at h; cases h
-- 
set_option maxHeartbeats 4000000 in
theorem litC0e_abs (L : List By) (hL : L.length ≤ 50000) (I : Nat) (s : Rs) (hs : s.bad = false) (x : By) (hx : L[I]? = some x) (hneg : decide (x = [126]) = false) (n : Nat) (r : Option (Nat × Nat)) (hr : skI L n 1 I none = some r) (at_ m : Nat) (hr2 : r = some (at_, m)) (hm : m ≤ 32) (y : By) (hy : L[at_]? = some y) (hys : y = [61]) (n2 : Nat) (r2 : Option (Nat × Nat)) (hr2' : skI L n2 1 (at_ + 1) none = some r2) (hbad : skBad r2 = true) :
    AFunO Tryd.prog 18 (rdR L I s) [.bp 350001 0 []] (.val (.row [.b false, .row [.i 0, .lst []], .row [.i 0, .lst []]])) (rdR L I ⟨true, s.g, s.vs⟩) := by
  subst hr2
  have hIl : I < L.length := (List.getElem?_eq_some_iff.1 hx).1
  obtain ⟨sb, sg, sv_⟩ := s
  have hs : sb = false := hs
  subst hs
  have his := is12_abs L I false sg sv_ [126] x hx
  rw [hneg] at his
  simp only [Bool.not_false, Bool.true_and] at his
  have hsk := skip12_abs L (by omega) I false sg sv_ n 1 I _ (by omega) hr
  simp only [skR] at hsk
  refine afunO_of Tryd.func18 Tryd.ntmps18 rfl rfl rfl rfl rfl rfl ?_
  intro w U hU
  refine aS (aR ?_)
  (refine nx (a_alloc (gN rfl) rfl rfl rfl rfl rfl rfl rfl rfl rfl rfl) (by kernel_rfl) ?_)
  show AWp _ _ _ _ _ _ _
  refine aS (aR ?_)
  (refine nx (aM (gN rfl) rfl rfl rfl rfl rfl) rfl ?_)
  (refine nx (a_callO (gN rfl) rfl rfl rfl rfl rfl (his) (by repeat (first | exact trivial | refine ⟨rfl, ?_⟩)) (by first | rfl | kernel_rfl) (by first | rfl | kernel_rfl) (by first | rfl | kernel_rfl) (by first | rfl | kernel_rfl) (hnb_of (by first | rfl | kernel_rfl))) rfl ?_)
  (refine nx (a_build (gN rfl) rfl rfl rfl rfl rfl rfl rfl rfl rfl rfl rfl) rfl ?_)
  (refine nx (a_alloc (gN rfl) rfl rfl rfl rfl rfl rfl rfl rfl rfl rfl) (by kernel_rfl) ?_)
  (refine nx (aSt (gN rfl) rfl rfl rfl rfl rfl rfl rfl rfl rfl rfl) rfl ?_)
  show AWp _ _ _ _ _ _ _
  refine aS (aS (aR ?_))
  (refine nx (aF (gN rfl) rfl rfl rfl rfl rfl rfl rfl rfl rfl) rfl ?_)
  (refine nx (aLb (gN rfl) rfl rfl rfl rfl rfl rfl rfl rfl rfl rfl rfl rfl) rfl ?_)
  show AWp _ _ _ _ _ _ _
  refine aC rfl (fun h => by cases h) (fun _ => aK ?_)
  show AWp _ _ _ _ _ _ _
  refine aS (aR ?_)
  (refine nx (aM (gN rfl) rfl rfl rfl rfl rfl) rfl ?_)
  (refine nx (aM (gN rfl) rfl rfl rfl rfl rfl) rfl ?_)
  (refine nx (aNc (gN rfl) rfl rfl rfl rfl rfl) rfl ?_)
  (refine nx (aF (gN rfl) rfl rfl rfl rfl rfl rfl rfl rfl rfl) rfl ?_)
  (refine nx (aLf (gN rfl) rfl rfl rfl rfl rfl rfl rfl rfl rfl rfl rfl rfl rfl) rfl ?_)
  (refine nx (a_callO (gN rfl) rfl rfl rfl rfl rfl (hsk) (by repeat (first | exact trivial | refine ⟨rfl, ?_⟩)) (by first | rfl | kernel_rfl) (by first | rfl | kernel_rfl) (by first | rfl | kernel_rfl) (by first | rfl | kernel_rfl) (hnb_of (by first | rfl | kernel_rfl))) rfl ?_)
  (refine nx (aM (gN rfl) rfl rfl rfl rfl rfl) rfl ?_)
  (refine nx (aX (gN rfl) rfl rfl rfl rfl rfl rfl) rfl ?_)
  (refine nx (aX (gN rfl) rfl rfl rfl rfl rfl rfl) rfl ?_)
  (refine nx (aA (gN rfl) rfl rfl rfl rfl rfl) rfl ?_)
  (refine nx (aA (gN rfl) rfl rfl rfl rfl rfl) rfl ?_)
  show AWp _ _ _ _ _ _ _
  obtain ⟨g, g2⟩ : decide ((at_ : Int) < 0) = false ∧ decide ((m : Int) > 32) = false := skR_good at_ m hm
  have hatl0 : at_ < L.length := (List.getElem?_eq_some_iff.1 hy).1
  refine aS (aS (aR ?_))
  (refine nx (aM (gN rfl) rfl rfl rfl rfl rfl) rfl ?_)
  (refine nx (a_lss (gN rfl) rfl rfl rfl rfl rfl rfl) rfl ?_)
  (refine nx (aM (gN rfl) rfl rfl rfl rfl rfl) rfl ?_)
  (refine nx (aM (gd_on rfl rfl rfl rfl (by first | rfl | assumption | (simp; done))) rfl rfl rfl rfl rfl) rfl ?_)
  (refine nx (a_gtr (gd_on rfl rfl rfl rfl (by first | rfl | assumption | (simp; done))) rfl rfl rfl rfl rfl rfl) rfl ?_)
  (refine ⟨_, _, _, aPf (gN rfl) rfl rfl rfl rfl rfl ?hb rfl, rfl, ?_⟩; case hb => (first | rfl | assumption | (simp; done)))
  show AWp _ _ _ _ _ _ _
  refine aC rfl (fun h => ?_) (fun h => aK ?_)
  · have h : decide ((m : Int) > 32) = true := h
    rw [g2] at h; cases h
  show AWp _ _ _ _ _ _ _
  have hatl : at_ < L.length := (List.getElem?_eq_some_iff.1 hy).1
  have hy' := sv_at hy
  have hsv := svs_size L
  refine aS (aR ?_)
  (refine nx (aM (gN rfl) rfl rfl rfl rfl rfl) rfl ?_)
  (refine nx (aNc (gN rfl) rfl rfl rfl rfl rfl) rfl ?_)
  (refine nx (aF (gN rfl) rfl rfl rfl rfl rfl rfl rfl rfl rfl) rfl ?_)
  (refine nx (aLf (gN rfl) rfl rfl rfl rfl rfl rfl rfl rfl rfl rfl rfl rfl rfl) rfl ?_)
  (refine nx (aM (gN rfl) rfl rfl rfl rfl rfl) rfl ?_)
  (refine nx (a_index (j := at_) (gN rfl) rfl rfl rfl rfl rfl rfl rfl rfl rfl (hy') rfl (hsv)) rfl ?_)
  (refine nx (a_load_ad (gN rfl) rfl rfl rfl rfl rfl rfl rfl rfl rfl) rfl ?_)
  (refine nx (aA (gN rfl) rfl rfl rfl rfl rfl) rfl ?_)
  show AWp _ _ _ _ _ _ _
  subst hys
  refine aS (aS (aR ?_))
  (refine nx (aM (gN rfl) rfl rfl rfl rfl rfl) rfl ?_)
  (refine nx (a_sneq (gN rfl) rfl rfl rfl rfl rfl rfl rfl) rfl ?_)
  (refine nx (aM (gN rfl) rfl rfl rfl rfl rfl) rfl ?_)
  (refine ⟨_, _, _, a_off (go_off rfl rfl rfl rfl (by first | rfl | assumption | (simp; done) | (simp [*]; done))) rfl rfl rfl, rfl, ?_⟩)
  (refine ⟨_, _, _, a_off (go_off rfl rfl rfl rfl (by first | rfl | assumption | (simp; done) | (simp [*]; done))) rfl rfl rfl, rfl, ?_⟩)
  (refine ⟨_, _, _, aPf (gN rfl) rfl rfl rfl rfl rfl ?hb rfl, rfl, ?_⟩; case hb => (first | rfl | assumption | (simp; done)))
  show AWp _ _ _ _ _ _ _
  refine aC rfl (fun h => by cases h) (fun h => aK ?_)
  show AWp _ _ _ _ _ _ _
  have hsk2 := skip12_abs L (by omega) I false sg sv_ n2 1 (at_ + 1) r2 (by omega) hr2'
  refine aS (aR ?_)
  (refine nx (aM (gN rfl) rfl rfl rfl rfl rfl) rfl ?_)
  (refine nx (aM (gN rfl) rfl rfl rfl rfl rfl) rfl ?_)
  (refine nx (a_add (gN rfl) rfl rfl rfl rfl rfl rfl (by first | omega | (simp only [List.length_map, List.length_append, List.length_cons, List.length_nil] <;> omega) | (simp <;> omega))) rfl ?_)
  (refine nx (a_callO (gN rfl) rfl rfl rfl rfl rfl (hsk2) (by repeat (first | exact trivial | refine ⟨rfl, ?_⟩)) (by first | rfl | kernel_rfl) (by first | rfl | kernel_rfl) (by first | rfl | kernel_rfl) (by first | rfl | kernel_rfl) (hnb_of (by first | rfl | kernel_rfl))) rfl ?_)
  (refine nx (aM (gN rfl) rfl rfl rfl rfl rfl) rfl ?_)
  (refine nx (aX (gN rfl) rfl rfl rfl rfl rfl rfl) rfl ?_)
  (refine nx (aX (gN rfl) rfl rfl rfl rfl rfl rfl) rfl ?_)
  (refine nx (aA (gN rfl) rfl rfl rfl rfl rfl) rfl ?_)
  (refine nx (aA (gN rfl) rfl rfl rfl rfl rfl) rfl ?_)
  show AWp _ _ _ _ _ _ _
  rcases skR_bad hbad with g | ⟨g, g2⟩
  · refine aS (aS (aR ?_))
    (refine nx (aM (gN rfl) rfl rfl rfl rfl rfl) rfl ?_)
    (refine nx (a_lss (gN rfl) rfl rfl rfl rfl rfl rfl) rfl ?_)
    (refine nx (aM (gN rfl) rfl rfl rfl rfl rfl) rfl ?_)
    (refine ⟨_, _, _, a_off (go_off rfl rfl rfl rfl (by first | rfl | assumption | (simp; done) | (simp [*]; done))) rfl rfl rfl, rfl, ?_⟩)
    (refine ⟨_, _, _, a_off (go_off rfl rfl rfl rfl (by first | rfl | assumption | (simp; done) | (simp [*]; done))) rfl rfl rfl, rfl, ?_⟩)
    (refine ⟨_, _, _, aPt (gN rfl) rfl rfl rfl rfl rfl ?hb rfl, rfl, ?_⟩; case hb => (first | rfl | assumption | (simp; done)))
    show AWp _ _ _ _ _ _ _
    refine aC rfl (fun _ => ?_) (fun h => by cases h)
    refine aS (aR ?_)
    (refine nx (aM (gN rfl) rfl rfl rfl rfl rfl) rfl ?_)
    (refine nx (aNc (gN rfl) rfl rfl rfl rfl rfl) rfl ?_)
    (refine nx (aF (gN rfl) rfl rfl rfl rfl rfl rfl rfl rfl rfl) rfl ?_)
    (refine nx (a_store_fld (gN rfl) rfl rfl rfl rfl rfl rfl rfl rfl rfl rfl rfl rfl) rfl ?_)
    show AWp _ _ _ _ _ _ _
    refine aS (aR ?_)
    (refine nx (aL (gN rfl) rfl rfl rfl rfl rfl rfl rfl rfl rfl rfl rfl rfl) rfl ?_)
    (refine nx (aSt (gN rfl) rfl rfl rfl rfl rfl rfl rfl rfl rfl rfl) rfl ?_)
    show AWp _ _ _ _ _ _ _
    exact aT ⟨.inr rfl, _, Wk.refl _, rfl, rfl, rfl, rfl, rfl, rfl, rfl, rfl, rfl, rfl, rfl, rfl, rfl, trivial⟩
  · refine aS (aS (aR ?_))
    (refine nx (aM (gN rfl) rfl rfl rfl rfl rfl) rfl ?_)
    (refine nx (a_lss (gN rfl) rfl rfl rfl rfl rfl rfl) rfl ?_)
    (refine nx (aM (gN rfl) rfl rfl rfl rfl rfl) rfl ?_)
    (refine nx (aM (gd_on rfl rfl rfl rfl (by first | rfl | assumption | (simp; done))) rfl rfl rfl rfl rfl) rfl ?_)
    (refine nx (a_gtr (gd_on rfl rfl rfl rfl (by first | rfl | assumption | (simp; done))) rfl rfl rfl rfl rfl rfl) rfl ?_)
    (refine ⟨_, _, _, aPf (gN rfl) rfl rfl rfl rfl rfl ?hb rfl, rfl, ?_⟩; case hb => (first | rfl | assumption | (simp; done)))
    show AWp _ _ _ _ _ _ _
    refine aC rfl (fun _ => ?_) (fun h => ?_)
    · refine aS (aR ?_)
      (refine nx (aM (gN rfl) rfl rfl rfl rfl rfl) rfl ?_)
      (refine nx (aNc (gN rfl) rfl rfl rfl rfl rfl) rfl ?_)
      (refine nx (aF (gN rfl) rfl rfl rfl rfl rfl rfl rfl rfl rfl) rfl ?_)
      (refine nx (a_store_fld (gN rfl) rfl rfl rfl rfl rfl rfl rfl rfl rfl rfl rfl rfl) rfl ?_)
      show AWp _ _ _ _ _ _ _
      refine aS (aR ?_)
      (refine nx (aL (gN rfl) rfl rfl rfl rfl rfl rfl rfl rfl rfl rfl rfl rfl) rfl ?_)
      (refine nx (aSt (gN rfl) rfl rfl rfl rfl rfl rfl rfl rfl rfl rfl) rfl ?_)
      show AWp _ _ _ _ _ _ _
      exact aT ⟨.inr rfl, _, Wk.refl _, rfl, rfl, rfl, rfl, rfl, rfl, rfl, rfl, rfl, rfl, rfl, rfl, rfl, trivial⟩
    · have h : decide ((skR r2).2 > 32) = false := h
      rw [g2] at h; cases h
-- 
set_option maxHeartbeats 4000000 in
theorem litD0e_abs (L : List By) (hL : L.length ≤ 50000) (I : Nat) (s : Rs) (hs : s.bad = false) (x : By) (hx : L[I]? = some x) (hneg : decide (x = [126]) = false) (n : Nat) (r : Option (Nat × Nat)) (hr : skI L n 1 I none = some r) (at_ m : Nat) (hr2 : r = some (at_, m)) (hm : m ≤ 32) (y : By) (hy : L[at_]? = some y) (hys : y = [61]) (n2 : Nat) (r2 : Option (Nat × Nat)) (hr2' : skI L n2 1 (at_ + 1) none = some r2) (e_ m2 : Nat) (hr3 : r2 = some (e_, m2)) (hm2 : m2 ≤ 32) (t1 : Tm) (s1 : Rs) (ht1 : AFunO Tryd.prog 29 (rdR L I s) [.bp 350001 0 [], .val (.b false)] (.val t1.cw) (rdR L at_ s1)) (hb1 : s1.bad = true) :
    AFunO Tryd.prog 18 (rdR L I s) [.bp 350001 0 []] (.val (.row [.b false, t1.cw, .row [.i 0, .lst []]])) (rdR L at_ s1) := by
  subst hr2
  have hIl : I < L.length := (List.getElem?_eq_some_iff.1 hx).1
  obtain ⟨sb, sg, sv_⟩ := s
  have hs : sb = false := hs
  subst hs
  have his := is12_abs L I false sg sv_ [126] x hx
  rw [hneg] at his
  simp only [Bool.not_false, Bool.true_and] at his
  have hsk := skip12_abs L (by omega) I false sg sv_ n 1 I _ (by omega) hr
  simp only [skR] at hsk
  refine afunO_of Tryd.func18 Tryd.ntmps18 rfl rfl rfl rfl rfl rfl ?_
  intro w U hU
  refine aS (aR ?_)
  (refine nx (a_alloc (gN rfl) rfl rfl rfl rfl rfl rfl rfl rfl rfl rfl) (by kernel_rfl) ?_)
  show AWp _ _ _ _ _ _ _
  refine aS (aR ?_)
  (refine nx (aM (gN rfl) rfl rfl rfl rfl rfl) rfl ?_)
  (refine nx (a_callO (gN rfl) rfl rfl rfl rfl rfl (his) (by repeat (first | exact trivial | refine ⟨rfl, ?_⟩)) (by first | rfl | kernel_rfl) (by first | rfl | kernel_rfl) (by first | rfl | kernel_rfl) (by first | rfl | kernel_rfl) (hnb_of (by first | rfl | kernel_rfl))) rfl ?_)
  (refine nx (a_build (gN rfl) rfl rfl rfl rfl rfl rfl rfl rfl rfl rfl rfl) rfl ?_)
  (refine nx (a_alloc (gN rfl) rfl rfl rfl rfl rfl rfl rfl rfl rfl rfl) (by kernel_rfl) ?_)
  (refine nx (aSt (gN rfl) rfl rfl rfl rfl rfl rfl rfl rfl rfl rfl) rfl ?_)
  show AWp _ _ _ _ _ _ _
  refine aS (aS (aR ?_))
  (refine nx (aF (gN rfl) rfl rfl rfl rfl rfl rfl rfl rfl rfl) rfl ?_)
  (refine nx (aLb (gN rfl) rfl rfl rfl rfl rfl rfl rfl rfl rfl rfl rfl rfl) rfl ?_)
  show AWp _ _ _ _ _ _ _
  refine aC rfl (fun h => by cases h) (fun _ => aK ?_)
  show AWp _ _ _ _ _ _ _
  refine aS (aR ?_)
  (refine nx (aM (gN rfl) rfl rfl rfl rfl rfl) rfl ?_)
  (refine nx (aM (gN rfl) rfl rfl rfl rfl rfl) rfl ?_)
  (refine nx (aNc (gN rfl) rfl rfl rfl rfl rfl) rfl ?_)
  (refine nx (aF (gN rfl) rfl rfl rfl rfl rfl rfl rfl rfl rfl) rfl ?_)
  (refine nx (aLf (gN rfl) rfl rfl rfl rfl rfl rfl rfl rfl rfl rfl rfl rfl rfl) rfl ?_)
  (refine nx (a_callO (gN rfl) rfl rfl rfl rfl rfl (hsk) (by repeat (first | exact trivial | refine ⟨rfl, ?_⟩)) (by first | rfl | kernel_rfl) (by first | rfl | kernel_rfl) (by first | rfl | kernel_rfl) (by first | rfl | kernel_rfl) (hnb_of (by first | rfl | kernel_rfl))) rfl ?_)
  (refine nx (aM (gN rfl) rfl rfl rfl rfl rfl) rfl ?_)
  (refine nx (aX (gN rfl) rfl rfl rfl rfl rfl rfl) rfl ?_)
  (refine nx (aX (gN rfl) rfl rfl rfl rfl rfl rfl) rfl ?_)
  (refine nx (aA (gN rfl) rfl rfl rfl rfl rfl) rfl ?_)
  (refine nx (aA (gN rfl) rfl rfl rfl rfl rfl) rfl ?_)
  show AWp _ _ _ _ _ _ _
  obtain ⟨g, g2⟩ : decide ((at_ : Int) < 0) = false ∧ decide ((m : Int) > 32) = false := skR_good at_ m hm
  have hatl0 : at_ < L.length := (List.getElem?_eq_some_iff.1 hy).1
  refine aS (aS (aR ?_))
  (refine nx (aM (gN rfl) rfl rfl rfl rfl rfl) rfl ?_)
  (refine nx (a_lss (gN rfl) rfl rfl rfl rfl rfl rfl) rfl ?_)
  (refine nx (aM (gN rfl) rfl rfl rfl rfl rfl) rfl ?_)
  (refine nx (aM (gd_on rfl rfl rfl rfl (by first | rfl | assumption | (simp; done))) rfl rfl rfl rfl rfl) rfl ?_)
  (refine nx (a_gtr (gd_on rfl rfl rfl rfl (by first | rfl | assumption | (simp; done))) rfl rfl rfl rfl rfl rfl) rfl ?_)
  (refine ⟨_, _, _, aPf (gN rfl) rfl rfl rfl rfl rfl ?hb rfl, rfl, ?_⟩; case hb => (first | rfl | assumption | (simp; done)))
  show AWp _ _ _ _ _ _ _
  refine aC rfl (fun h => ?_) (fun h => aK ?_)
  · have h : decide ((m : Int) > 32) = true := h
    rw [g2] at h; cases h
  show AWp _ _ _ _ _ _ _
  have hatl : at_ < L.length := (List.getElem?_eq_some_iff.1 hy).1
  have hy' := sv_at hy
  have hsv := svs_size L
  refine aS (aR ?_)
  (refine nx (aM (gN rfl) rfl rfl rfl rfl rfl) rfl ?_)
  (refine nx (aNc (gN rfl) rfl rfl rfl rfl rfl) rfl ?_)
  (refine nx (aF (gN rfl) rfl rfl rfl rfl rfl rfl rfl rfl rfl) rfl ?_)
  (refine nx (aLf (gN rfl) rfl rfl rfl rfl rfl rfl rfl rfl rfl rfl rfl rfl rfl) rfl ?_)
  (refine nx (aM (gN rfl) rfl rfl rfl rfl rfl) rfl ?_)
  (refine nx (a_index (j := at_) (gN rfl) rfl rfl rfl rfl rfl rfl rfl rfl rfl (hy') rfl (hsv)) rfl ?_)
  (refine nx (a_load_ad (gN rfl) rfl rfl rfl rfl rfl rfl rfl rfl rfl) rfl ?_)
  (refine nx (aA (gN rfl) rfl rfl rfl rfl rfl) rfl ?_)
  show AWp _ _ _ _ _ _ _
  subst hys
  refine aS (aS (aR ?_))
  (refine nx (aM (gN rfl) rfl rfl rfl rfl rfl) rfl ?_)
  (refine nx (a_sneq (gN rfl) rfl rfl rfl rfl rfl rfl rfl) rfl ?_)
  (refine nx (aM (gN rfl) rfl rfl rfl rfl rfl) rfl ?_)
  (refine ⟨_, _, _, a_off (go_off rfl rfl rfl rfl (by first | rfl | assumption | (simp; done) | (simp [*]; done))) rfl rfl rfl, rfl, ?_⟩)
  (refine ⟨_, _, _, a_off (go_off rfl rfl rfl rfl (by first | rfl | assumption | (simp; done) | (simp [*]; done))) rfl rfl rfl, rfl, ?_⟩)
  (refine ⟨_, _, _, aPf (gN rfl) rfl rfl rfl rfl rfl ?hb rfl, rfl, ?_⟩; case hb => (first | rfl | assumption | (simp; done)))
  show AWp _ _ _ _ _ _ _
  refine aC rfl (fun h => by cases h) (fun h => aK ?_)
  show AWp _ _ _ _ _ _ _
  subst hr3
  have hsk2 := skip12_abs L (by omega) I false sg sv_ n2 1 (at_ + 1) _ (by omega) hr2'
  simp only [skR] at hsk2
  refine aS (aR ?_)
  (refine nx (aM (gN rfl) rfl rfl rfl rfl rfl) rfl ?_)
  (refine nx (aM (gN rfl) rfl rfl rfl rfl rfl) rfl ?_)
  (refine nx (a_add (gN rfl) rfl rfl rfl rfl rfl rfl (by first | omega | (simp only [List.length_map, List.length_append, List.length_cons, List.length_nil] <;> omega) | (simp <;> omega))) rfl ?_)
  (refine nx (a_callO (gN rfl) rfl rfl rfl rfl rfl (hsk2) (by repeat (first | exact trivial | refine ⟨rfl, ?_⟩)) (by first | rfl | kernel_rfl) (by first | rfl | kernel_rfl) (by first | rfl | kernel_rfl) (by first | rfl | kernel_rfl) (hnb_of (by first | rfl | kernel_rfl))) rfl ?_)
  (refine nx (aM (gN rfl) rfl rfl rfl rfl rfl) rfl ?_)
  (refine nx (aX (gN rfl) rfl rfl rfl rfl rfl rfl) rfl ?_)
  (refine nx (aX (gN rfl) rfl rfl rfl rfl rfl rfl) rfl ?_)
  (refine nx (aA (gN rfl) rfl rfl rfl rfl rfl) rfl ?_)
  (refine nx (aA (gN rfl) rfl rfl rfl rfl rfl) rfl ?_)
  show AWp _ _ _ _ _ _ _
  obtain ⟨g5, g6⟩ : decide ((e_ : Int) < 0) = false ∧ decide ((m2 : Int) > 32) = false := skR_good e_ m2 hm2
  refine aS (aS (aR ?_))
  (refine nx (aM (gN rfl) rfl rfl rfl rfl rfl) rfl ?_)
  (refine nx (a_lss (gN rfl) rfl rfl rfl rfl rfl rfl) rfl ?_)
  (refine nx (aM (gN rfl) rfl rfl rfl rfl rfl) rfl ?_)
  (refine nx (aM (gd_on rfl rfl rfl rfl (by first | rfl | assumption | (simp; done))) rfl rfl rfl rfl rfl) rfl ?_)
  (refine nx (a_gtr (gd_on rfl rfl rfl rfl (by first | rfl | assumption | (simp; done))) rfl rfl rfl rfl rfl rfl) rfl ?_)
  (refine ⟨_, _, _, aPf (gN rfl) rfl rfl rfl rfl rfl ?hb rfl, rfl, ?_⟩; case hb => (first | rfl | assumption | (simp; done)))
  show AWp _ _ _ _ _ _ _
  refine aC rfl (fun h => ?_) (fun h => aK ?_)
  · have h : decide ((m2 : Int) > 32) = true := h
    rw [g6] at h; cases h
  show AWp _ _ _ _ _ _ _
  obtain ⟨b1, g1_, v1_⟩ := s1
  have hb1 : b1 = true := hb1
  subst hb1
  refine aS (aR ?_)
  (refine nx (aM (gN rfl) rfl rfl rfl rfl rfl) rfl ?_)
  (refine nx (a_callO (gN rfl) rfl rfl rfl rfl rfl (ht1) (by repeat (first | exact trivial | refine ⟨rfl, ?_⟩)) (by first | rfl | kernel_rfl) (by first | rfl | kernel_rfl) (by first | rfl | kernel_rfl) (by first | rfl | kernel_rfl) (hnb_of (by first | rfl | kernel_rfl))) rfl ?_)
  (refine nx (aF (gN rfl) rfl rfl rfl rfl rfl rfl rfl rfl rfl) rfl ?_)
  (refine nx (a_store (gN rfl) rfl rfl rfl rfl rfl rfl rfl rfl rfl rfl) rfl ?_)
  show AWp _ _ _ _ _ _ _
  have htk2 := take12_no L at_ true g1_ v1_ [61] [61] hy rfl
  refine aS (aR ?_)
  (refine nx (aM (gN rfl) rfl rfl rfl rfl rfl) rfl ?_)
  (refine nx (aM (gN rfl) rfl rfl rfl rfl rfl) rfl ?_)
  (refine nx (a_callO (gN rfl) rfl rfl rfl rfl rfl (htk2) (by repeat (first | exact trivial | refine ⟨rfl, ?_⟩)) (by first | rfl | kernel_rfl) (by first | rfl | kernel_rfl) (by first | rfl | kernel_rfl) (by first | rfl | kernel_rfl) (hnb_of (by first | rfl | kernel_rfl))) rfl ?_)
  show AWp _ _ _ _ _ _ _
  refine aS (aS (aR ?_))
  (refine nx (aM (gN rfl) rfl rfl rfl rfl rfl) rfl ?_)
  (refine nx (aNc (gN rfl) rfl rfl rfl rfl rfl) rfl ?_)
  (refine nx (aF (gN rfl) rfl rfl rfl rfl rfl rfl rfl rfl rfl) rfl ?_)
  (refine nx (aLf (gN rfl) rfl rfl rfl rfl rfl rfl rfl rfl rfl rfl rfl rfl rfl) rfl ?_)
  show AWp _ _ _ _ _ _ _
  refine aC rfl (fun _ => ?_) (fun h => by cases h)
  refine aS (aR ?_)
  (refine nx (aL (gN rfl) rfl rfl rfl rfl rfl rfl rfl rfl rfl rfl rfl rfl) rfl ?_)
  (refine nx (aSt (gN rfl) rfl rfl rfl rfl rfl rfl rfl rfl rfl rfl) rfl ?_)
  show AWp _ _ _ _ _ _ _
  exact aT ⟨.inr rfl, _, Wk.refl _, rfl, rfl, rfl, rfl, rfl, rfl, rfl, rfl, rfl, rfl, rfl, rfl, rfl, trivial⟩
-- 
set_option maxHeartbeats 4000000 in
theorem litE0e_abs (L : List By) (hL : L.length ≤ 50000) (I : Nat) (s : Rs) (hs : s.bad = false) (x : By) (hx : L[I]? = some x) (hneg : decide (x = [126]) = false) (n : Nat) (r : Option (Nat × Nat)) (hr : skI L n 1 I none = some r) (at_ m : Nat) (hr2 : r = some (at_, m)) (hm : m ≤ 32) (y : By) (hy : L[at_]? = some y) (hys : y = [61]) (n2 : Nat) (r2 : Option (Nat × Nat)) (hr2' : skI L n2 1 (at_ + 1) none = some r2) (e_ m2 : Nat) (hr3 : r2 = some (e_, m2)) (hm2 : m2 ≤ 32) (t1 : Tm) (s1 : Rs) (ht1 : AFunO Tryd.prog 29 (rdR L I s) [.bp 350001 0 [], .val (.b false)] (.val t1.cw) (rdR L at_ s1)) (hb1 : s1.bad = false) (t2 : Tm) (s2 : Rs) (I2 : Nat) (ht2 : AFunO Tryd.prog 29 (rdR L (at_ + 1) s1) [.bp 350001 0 [], .val (.b false)] (.val t2.cw) (rdR L I2 s2)) :
    AFunO Tryd.prog 18 (rdR L I s) [.bp 350001 0 []] (.val (.row [.b false, t1.cw, t2.cw])) (rdR L I2 s2) := by
  subst hr2
  have hIl : I < L.length := (List.getElem?_eq_some_iff.1 hx).1
  obtain ⟨sb, sg, sv_⟩ := s
  have hs : sb = false := hs
  subst hs
  have his := is12_abs L I false sg sv_ [126] x hx
  rw [hneg] at his
  simp only [Bool.not_false, Bool.true_and] at his
  have hsk := skip12_abs L (by omega) I false sg sv_ n 1 I _ (by omega) hr
  simp only [skR] at hsk
  refine afunO_of Tryd.func18 Tryd.ntmps18 rfl rfl rfl rfl rfl rfl ?_
  intro w U hU
  refine aS (aR ?_)
  (refine nx (a_alloc (gN rfl) rfl rfl rfl rfl rfl rfl rfl rfl rfl rfl) (by kernel_rfl) ?_)
  show AWp _ _ _ _ _ _ _
  refine aS (aR ?_)
  (refine nx (aM (gN rfl) rfl rfl rfl rfl rfl) rfl ?_)
  (refine nx (a_callO (gN rfl) rfl rfl rfl rfl rfl (his) (by repeat (first | exact trivial | refine ⟨rfl, ?_⟩)) (by first | rfl | kernel_rfl) (by first | rfl | kernel_rfl) (by first | rfl | kernel_rfl) (by first | rfl | kernel_rfl) (hnb_of (by first | rfl | kernel_rfl))) rfl ?_)
  (refine nx (a_build (gN rfl) rfl rfl rfl rfl rfl rfl rfl rfl rfl rfl rfl) rfl ?_)
  (refine nx (a_alloc (gN rfl) rfl rfl rfl rfl rfl rfl rfl rfl rfl rfl) (by kernel_rfl) ?_)
  (refine nx (aSt (gN rfl) rfl rfl rfl rfl rfl rfl rfl rfl rfl rfl) rfl ?_)
  show AWp _ _ _ _ _ _ _
  refine aS (aS (aR ?_))
  (refine nx (aF (gN rfl) rfl rfl rfl rfl rfl rfl rfl rfl rfl) rfl ?_)
  (refine nx (aLb (gN rfl) rfl rfl rfl rfl rfl rfl rfl rfl rfl rfl rfl rfl) rfl ?_)
  show AWp _ _ _ _ _ _ _
  refine aC rfl (fun h => by cases h) (fun _ => aK ?_)
  show AWp _ _ _ _ _ _ _
  refine aS (aR ?_)
  (refine nx (aM (gN rfl) rfl rfl rfl rfl rfl) rfl ?_)
  (refine nx (aM (gN rfl) rfl rfl rfl rfl rfl) rfl ?_)
  (refine nx (aNc (gN rfl) rfl rfl rfl rfl rfl) rfl ?_)
  (refine nx (aF (gN rfl) rfl rfl rfl rfl rfl rfl rfl rfl rfl) rfl ?_)
  (refine nx (aLf (gN rfl) rfl rfl rfl rfl rfl rfl rfl rfl rfl rfl rfl rfl rfl) rfl ?_)
  (refine nx (a_callO (gN rfl) rfl rfl rfl rfl rfl (hsk) (by repeat (first | exact trivial | refine ⟨rfl, ?_⟩)) (by first | rfl | kernel_rfl) (by first | rfl | kernel_rfl) (by first | rfl | kernel_rfl) (by first | rfl | kernel_rfl) (hnb_of (by first | rfl | kernel_rfl))) rfl ?_)
  (refine nx (aM (gN rfl) rfl rfl rfl rfl rfl) rfl ?_)
  (refine nx (aX (gN rfl) rfl rfl rfl rfl rfl rfl) rfl ?_)
  (refine nx (aX (gN rfl) rfl rfl rfl rfl rfl rfl) rfl ?_)
  (refine nx (aA (gN rfl) rfl rfl rfl rfl rfl) rfl ?_)
  (refine nx (aA (gN rfl) rfl rfl rfl rfl rfl) rfl ?_)
  show AWp _ _ _ _ _ _ _
  obtain ⟨g, g2⟩ : decide ((at_ : Int) < 0) = false ∧ decide ((m : Int) > 32) = false := skR_good at_ m hm
  have hatl0 : at_ < L.length := (List.getElem?_eq_some_iff.1 hy).1
  refine aS (aS (aR ?_))
  (refine nx (aM (gN rfl) rfl rfl rfl rfl rfl) rfl ?_)
  (refine nx (a_lss (gN rfl) rfl rfl rfl rfl rfl rfl) rfl ?_)
  (refine nx (aM (gN rfl) rfl rfl rfl rfl rfl) rfl ?_)
  (refine nx (aM (gd_on rfl rfl rfl rfl (by first | rfl | assumption | (simp; done))) rfl rfl rfl rfl rfl) rfl ?_)
  (refine nx (a_gtr (gd_on rfl rfl rfl rfl (by first | rfl | assumption | (simp; done))) rfl rfl rfl rfl rfl rfl) rfl ?_)
  (refine ⟨_, _, _, aPf (gN rfl) rfl rfl rfl rfl rfl ?hb rfl, rfl, ?_⟩; case hb => (first | rfl | assumption | (simp; done)))
  show AWp _ _ _ _ _ _ _
  refine aC rfl (fun h => ?_) (fun h => aK ?_)
  · have h : decide ((m : Int) > 32) = true := h
    rw [g2] at h; cases h
  show AWp _ _ _ _ _ _ _
  have hatl : at_ < L.length := (List.getElem?_eq_some_iff.1 hy).1
  have hy' := sv_at hy
  have hsv := svs_size L
  refine aS (aR ?_)
  (refine nx (aM (gN rfl) rfl rfl rfl rfl rfl) rfl ?_)
  (refine nx (aNc (gN rfl) rfl rfl rfl rfl rfl) rfl ?_)
  (refine nx (aF (gN rfl) rfl rfl rfl rfl rfl rfl rfl rfl rfl) rfl ?_)
  (refine nx (aLf (gN rfl) rfl rfl rfl rfl rfl rfl rfl rfl rfl rfl rfl rfl rfl) rfl ?_)
  (refine nx (aM (gN rfl) rfl rfl rfl rfl rfl) rfl ?_)
  (refine nx (a_index (j := at_) (gN rfl) rfl rfl rfl rfl rfl rfl rfl rfl rfl (hy') rfl (hsv)) rfl ?_)
  (refine nx (a_load_ad (gN rfl) rfl rfl rfl rfl rfl rfl rfl rfl rfl) rfl ?_)
  (refine nx (aA (gN rfl) rfl rfl rfl rfl rfl) rfl ?_)
  show AWp _ _ _ _ _ _ _
  subst hys
  refine aS (aS (aR ?_))
  (refine nx (aM (gN rfl) rfl rfl rfl rfl rfl) rfl ?_)
  (refine nx (a_sneq (gN rfl) rfl rfl rfl rfl rfl rfl rfl) rfl ?_)
  (refine nx (aM (gN rfl) rfl rfl rfl rfl rfl) rfl ?_)
  (refine ⟨_, _, _, a_off (go_off rfl rfl rfl rfl (by first | rfl | assumption | (simp; done) | (simp [*]; done))) rfl rfl rfl, rfl, ?_⟩)
  (refine ⟨_, _, _, a_off (go_off rfl rfl rfl rfl (by first | rfl | assumption | (simp; done) | (simp [*]; done))) rfl rfl rfl, rfl, ?_⟩)
  (refine ⟨_, _, _, aPf (gN rfl) rfl rfl rfl rfl rfl ?hb rfl, rfl, ?_⟩; case hb => (first | rfl | assumption | (simp; done)))
  show AWp _ _ _ _ _ _ _
  refine aC rfl (fun h => by cases h) (fun h => aK ?_)
  show AWp _ _ _ _ _ _ _
  subst hr3
  have hsk2 := skip12_abs L (by omega) I false sg sv_ n2 1 (at_ + 1) _ (by omega) hr2'
  simp only [skR] at hsk2
  refine aS (aR ?_)
  (refine nx (aM (gN rfl) rfl rfl rfl rfl rfl) rfl ?_)
  (refine nx (aM (gN rfl) rfl rfl rfl rfl rfl) rfl ?_)
  (refine nx (a_add (gN rfl) rfl rfl rfl rfl rfl rfl (by first | omega | (simp only [List.length_map, List.length_append, List.length_cons, List.length_nil] <;> omega) | (simp <;> omega))) rfl ?_)
  (refine nx (a_callO (gN rfl) rfl rfl rfl rfl rfl (hsk2) (by repeat (first | exact trivial | refine ⟨rfl, ?_⟩)) (by first | rfl | kernel_rfl) (by first | rfl | kernel_rfl) (by first | rfl | kernel_rfl) (by first | rfl | kernel_rfl) (hnb_of (by first | rfl | kernel_rfl))) rfl ?_)
  (refine nx (aM (gN rfl) rfl rfl rfl rfl rfl) rfl ?_)
  (refine nx (aX (gN rfl) rfl rfl rfl rfl rfl rfl) rfl ?_)
  (refine nx (aX (gN rfl) rfl rfl rfl rfl rfl rfl) rfl ?_)
  (refine nx (aA (gN rfl) rfl rfl rfl rfl rfl) rfl ?_)
  (refine nx (aA (gN rfl) rfl rfl rfl rfl rfl) rfl ?_)
  show AWp _ _ _ _ _ _ _
  obtain ⟨g5, g6⟩ : decide ((e_ : Int) < 0) = false ∧ decide ((m2 : Int) > 32) = false := skR_good e_ m2 hm2
  refine aS (aS (aR ?_))
  (refine nx (aM (gN rfl) rfl rfl rfl rfl rfl) rfl ?_)
  (refine nx (a_lss (gN rfl) rfl rfl rfl rfl rfl rfl) rfl ?_)
  (refine nx (aM (gN rfl) rfl rfl rfl rfl rfl) rfl ?_)
  (refine nx (aM (gd_on rfl rfl rfl rfl (by first | rfl | assumption | (simp; done))) rfl rfl rfl rfl rfl) rfl ?_)
  (refine nx (a_gtr (gd_on rfl rfl rfl rfl (by first | rfl | assumption | (simp; done))) rfl rfl rfl rfl rfl rfl) rfl ?_)
  (refine ⟨_, _, _, aPf (gN rfl) rfl rfl rfl rfl rfl ?hb rfl, rfl, ?_⟩; case hb => (first | rfl | assumption | (simp; done)))
  show AWp _ _ _ _ _ _ _
  refine aC rfl (fun h => ?_) (fun h => aK ?_)
  · have h : decide ((m2 : Int) > 32) = true := h
    rw [g6] at h; cases h
  show AWp _ _ _ _ _ _ _
  obtain ⟨b1, g1_, v1_⟩ := s1
  have hb1 : b1 = false := hb1
  subst hb1
  refine aS (aR ?_)
  (refine nx (aM (gN rfl) rfl rfl rfl rfl rfl) rfl ?_)
  (refine nx (a_callO (gN rfl) rfl rfl rfl rfl rfl (ht1) (by repeat (first | exact trivial | refine ⟨rfl, ?_⟩)) (by first | rfl | kernel_rfl) (by first | rfl | kernel_rfl) (by first | rfl | kernel_rfl) (by first | rfl | kernel_rfl) (hnb_of (by first | rfl | kernel_rfl))) rfl ?_)
  (refine nx (aF (gN rfl) rfl rfl rfl rfl rfl rfl rfl rfl rfl) rfl ?_)
  (refine nx (a_store (gN rfl) rfl rfl rfl rfl rfl rfl rfl rfl rfl rfl) rfl ?_)
  show AWp _ _ _ _ _ _ _
  have htk2 := take12_yes L at_ g1_ v1_ [61] hy (by omega)
  refine aS (aR ?_)
  (refine nx (aM (gN rfl) rfl rfl rfl rfl rfl) rfl ?_)
  (refine nx (aM (gN rfl) rfl rfl rfl rfl rfl) rfl ?_)
  (refine nx (a_callO (gN rfl) rfl rfl rfl rfl rfl (htk2) (by repeat (first | exact trivial | refine ⟨rfl, ?_⟩)) (by first | rfl | kernel_rfl) (by first | rfl | kernel_rfl) (by first | rfl | kernel_rfl) (by first | rfl | kernel_rfl) (hnb_of (by first | rfl | kernel_rfl))) rfl ?_)
  show AWp _ _ _ _ _ _ _
  refine aS (aS (aR ?_))
  (refine nx (aM (gN rfl) rfl rfl rfl rfl rfl) rfl ?_)
  (refine nx (aNc (gN rfl) rfl rfl rfl rfl rfl) rfl ?_)
  (refine nx (aF (gN rfl) rfl rfl rfl rfl rfl rfl rfl rfl rfl) rfl ?_)
  (refine nx (aLf (gN rfl) rfl rfl rfl rfl rfl rfl rfl rfl rfl rfl rfl rfl rfl) rfl ?_)
  show AWp _ _ _ _ _ _ _
  refine aC rfl (fun h => by cases h) (fun _ => aK ?_)
  show AWp _ _ _ _ _ _ _
  refine aS (aR ?_)
  (refine nx (aM (gN rfl) rfl rfl rfl rfl rfl) rfl ?_)
  (refine nx (a_callO (gN rfl) rfl rfl rfl rfl rfl (ht2) (by repeat (first | exact trivial | refine ⟨rfl, ?_⟩)) (by first | rfl | kernel_rfl) (by first | rfl | kernel_rfl) (by first | rfl | kernel_rfl) (by first | rfl | kernel_rfl) (hnb_of (by first | rfl | kernel_rfl))) rfl ?_)
  (refine nx (aF (gN rfl) rfl rfl rfl rfl rfl rfl rfl rfl rfl) rfl ?_)
  (refine nx (a_store (gN rfl) rfl rfl rfl rfl rfl rfl rfl rfl rfl rfl) rfl ?_)
  show AWp _ _ _ _ _ _ _
  refine aS (aS (aR ?_))
  (refine nx (aM (gN rfl) rfl rfl rfl rfl rfl) rfl ?_)
  (refine nx (a_seql (gN rfl) rfl rfl rfl rfl rfl rfl rfl) rfl ?_)
  show AWp _ _ _ _ _ _ _
  refine aC rfl (fun h => by cases h) (fun _ => aK ?_)
  show AWp _ _ _ _ _ _ _
  refine aS (aR ?_)
  (refine nx (aL (gN rfl) rfl rfl rfl rfl rfl rfl rfl rfl rfl rfl rfl rfl) rfl ?_)
  (refine nx (aSt (gN rfl) rfl rfl rfl rfl rfl rfl rfl rfl rfl rfl) rfl ?_)
  show AWp _ _ _ _ _ _ _
  exact aT ⟨.inr rfl, _, Wk.refl _, rfl, rfl, rfl, rfl, rfl, rfl, rfl, rfl, rfl, rfl, rfl, rfl, rfl, trivial⟩
-- 
set_option maxHeartbeats 4000000 in
theorem litC0n_abs (L : List By) (hL : L.length ≤ 50000) (I : Nat) (s : Rs) (hs : s.bad = false) (x : By) (hx : L[I]? = some x) (hneg : decide (x = [126]) = false) (n : Nat) (r : Option (Nat × Nat)) (hr : skI L n 1 I none = some r) (at_ m : Nat) (hr2 : r = some (at_, m)) (hm : m ≤ 32) (y : By) (hy : L[at_]? = some y) (hys : y = [33, 61]) (n2 : Nat) (r2 : Option (Nat × Nat)) (hr2' : skI L n2 1 (at_ + 1) none = some r2) (hbad : skBad r2 = true) :
    AFunO Tryd.prog 18 (rdR L I s) [.bp 350001 0 []] (.val (.row [.b false, .row [.i 0, .lst []], .row [.i 0, .lst []]])) (rdR L I ⟨true, s.g, s.vs⟩) := by
  subst hr2
  have hIl : I < L.length := (List.getElem?_eq_some_iff.1 hx).1
  obtain ⟨sb, sg, sv_⟩ := s
  have hs : sb = false := hs
  subst hs
  have his := is12_abs L I false sg sv_ [126] x hx
  rw [hneg] at his
  simp only [Bool.not_false, Bool.true_and] at his
  have hsk := skip12_abs L (by omega) I false sg sv_ n 1 I _ (by omega) hr
  simp only [skR] at hsk
  refine afunO_of Tryd.func18 Tryd.ntmps18 rfl rfl rfl rfl rfl rfl ?_
  intro w U hU
  refine aS (aR ?_)
  (refine nx (a_alloc (gN rfl) rfl rfl rfl rfl rfl rfl rfl rfl rfl rfl) (by kernel_rfl) ?_)
  show AWp _ _ _ _ _ _ _
  refine aS (aR ?_)
  (refine nx (aM (gN rfl) rfl rfl rfl rfl rfl) rfl ?_)
  (refine nx (a_callO (gN rfl) rfl rfl rfl rfl rfl (his) (by repeat (first | exact trivial | refine ⟨rfl, ?_⟩)) (by first | rfl | kernel_rfl) (by first | rfl | kernel_rfl) (by first | rfl | kernel_rfl) (by first | rfl | kernel_rfl) (hnb_of (by first | rfl | kernel_rfl))) rfl ?_)
  (refine nx (a_build (gN rfl) rfl rfl rfl rfl rfl rfl rfl rfl rfl rfl rfl) rfl ?_)
  (refine nx (a_alloc (gN rfl) rfl rfl rfl rfl rfl rfl rfl rfl rfl rfl) (by kernel_rfl) ?_)
  (refine nx (aSt (gN rfl) rfl rfl rfl rfl rfl rfl rfl rfl rfl rfl) rfl ?_)
  show AWp _ _ _ _ _ _ _
  refine aS (aS (aR ?_))
  (refine nx (aF (gN rfl) rfl rfl rfl rfl rfl rfl rfl rfl rfl) rfl ?_)
  (refine nx (aLb (gN rfl) rfl rfl rfl rfl rfl rfl rfl rfl rfl rfl rfl rfl) rfl ?_)
  show AWp _ _ _ _ _ _ _
  refine aC rfl (fun h => by cases h) (fun _ => aK ?_)
  show AWp _ _ _ _ _ _ _
  refine aS (aR ?_)
  (refine nx (aM (gN rfl) rfl rfl rfl rfl rfl) rfl ?_)
  (refine nx (aM (gN rfl) rfl rfl rfl rfl rfl) rfl ?_)
  (refine nx (aNc (gN rfl) rfl rfl rfl rfl rfl) rfl ?_)
  (refine nx (aF (gN rfl) rfl rfl rfl rfl rfl rfl rfl rfl rfl) rfl ?_)
  (refine nx (aLf (gN rfl) rfl rfl rfl rfl rfl rfl rfl rfl rfl rfl rfl rfl rfl) rfl ?_)
  (refine nx (a_callO (gN rfl) rfl rfl rfl rfl rfl (hsk) (by repeat (first | exact trivial | refine ⟨rfl, ?_⟩)) (by first | rfl | kernel_rfl) (by first | rfl | kernel_rfl) (by first | rfl | kernel_rfl) (by first | rfl | kernel_rfl) (hnb_of (by first | rfl | kernel_rfl))) rfl ?_)
  (refine nx (aM (gN rfl) rfl rfl rfl rfl rfl) rfl ?_)
  (refine nx (aX (gN rfl) rfl rfl rfl rfl rfl rfl) rfl ?_)
  (refine nx (aX (gN rfl) rfl rfl rfl rfl rfl rfl) rfl ?_)
  (refine nx (aA (gN rfl) rfl rfl rfl rfl rfl) rfl ?_)
  (refine nx (aA (gN rfl) rfl rfl rfl rfl rfl) rfl ?_)
  show AWp _ _ _ _ _ _ _
  obtain ⟨g, g2⟩ : decide ((at_ : Int) < 0) = false ∧ decide ((m : Int) > 32) = false := skR_good at_ m hm
  have hatl0 : at_ < L.length := (List.getElem?_eq_some_iff.1 hy).1
  refine aS (aS (aR ?_))
  (refine nx (aM (gN rfl) rfl rfl rfl rfl rfl) rfl ?_)
  (refine nx (a_lss (gN rfl) rfl rfl rfl rfl rfl rfl) rfl ?_)
  (refine nx (aM (gN rfl) rfl rfl rfl rfl rfl) rfl ?_)
  (refine nx (aM (gd_on rfl rfl rfl rfl (by first | rfl | assumption | (simp; done))) rfl rfl rfl rfl rfl) rfl ?_)
  (refine nx (a_gtr (gd_on rfl rfl rfl rfl (by first | rfl | assumption | (simp; done))) rfl rfl rfl rfl rfl rfl) rfl ?_)
  (refine ⟨_, _, _, aPf (gN rfl) rfl rfl rfl rfl rfl ?hb rfl, rfl, ?_⟩; case hb => (first | rfl | assumption | (simp; done)))
  show AWp _ _ _ _ _ _ _
  refine aC rfl (fun h => ?_) (fun h => aK ?_)
  · have h : decide ((m : Int) > 32) = true := h
    rw [g2] at h; cases h
  show AWp _ _ _ _ _ _ _
  have hatl : at_ < L.length := (List.getElem?_eq_some_iff.1 hy).1
  have hy' := sv_at hy
  have hsv := svs_size L
  refine aS (aR ?_)
  (refine nx (aM (gN rfl) rfl rfl rfl rfl rfl) rfl ?_)
  (refine nx (aNc (gN rfl) rfl rfl rfl rfl rfl) rfl ?_)
  (refine nx (aF (gN rfl) rfl rfl rfl rfl rfl rfl rfl rfl rfl) rfl ?_)
  (refine nx (aLf (gN rfl) rfl rfl rfl rfl rfl rfl rfl rfl rfl rfl rfl rfl rfl) rfl ?_)
  (refine nx (aM (gN rfl) rfl rfl rfl rfl rfl) rfl ?_)
  (refine nx (a_index (j := at_) (gN rfl) rfl rfl rfl rfl rfl rfl rfl rfl rfl (hy') rfl (hsv)) rfl ?_)
  (refine nx (a_load_ad (gN rfl) rfl rfl rfl rfl rfl rfl rfl rfl rfl) rfl ?_)
  (refine nx (aA (gN rfl) rfl rfl rfl rfl rfl) rfl ?_)
  show AWp _ _ _ _ _ _ _
  subst hys
  refine aS (aS (aR ?_))
  (refine nx (aM (gN rfl) rfl rfl rfl rfl rfl) rfl ?_)
  (refine nx (a_sneq (gN rfl) rfl rfl rfl rfl rfl rfl rfl) rfl ?_)
  (refine nx (aM (gN rfl) rfl rfl rfl rfl rfl) rfl ?_)
  (refine nx (aM (gd_on rfl rfl rfl rfl (by first | rfl | assumption | (simp; done))) rfl rfl rfl rfl rfl) rfl ?_)
  (refine nx (a_sneq (gd_on rfl rfl rfl rfl (by first | rfl | assumption | (simp; done))) rfl rfl rfl rfl rfl rfl rfl) rfl ?_)
  (refine ⟨_, _, _, aPt (gN rfl) rfl rfl rfl rfl rfl ?hb rfl, rfl, ?_⟩; case hb => (first | rfl | assumption | (simp; done)))
  show AWp _ _ _ _ _ _ _
  refine aC rfl (fun h => by cases h) (fun h => aK ?_)
  show AWp _ _ _ _ _ _ _
  have hsk2 := skip12_abs L (by omega) I false sg sv_ n2 1 (at_ + 1) r2 (by omega) hr2'
  refine aS (aR ?_)
  (refine nx (aM (gN rfl) rfl rfl rfl rfl rfl) rfl ?_)
  (refine nx (aM (gN rfl) rfl rfl rfl rfl rfl) rfl ?_)
  (refine nx (a_add (gN rfl) rfl rfl rfl rfl rfl rfl (by first | omega | (simp only [List.length_map, List.length_append, List.length_cons, List.length_nil] <;> omega) | (simp <;> omega))) rfl ?_)
  (refine nx (a_callO (gN rfl) rfl rfl rfl rfl rfl (hsk2) (by repeat (first | exact trivial | refine ⟨rfl, ?_⟩)) (by first | rfl | kernel_rfl) (by first | rfl | kernel_rfl) (by first | rfl | kernel_rfl) (by first | rfl | kernel_rfl) (hnb_of (by first | rfl | kernel_rfl))) rfl ?_)
  (refine nx (aM (gN rfl) rfl rfl rfl rfl rfl) rfl ?_)
  (refine nx (aX (gN rfl) rfl rfl rfl rfl rfl rfl) rfl ?_)
  (refine nx (aX (gN rfl) rfl rfl rfl rfl rfl rfl) rfl ?_)
  (refine nx (aA (gN rfl) rfl rfl rfl rfl rfl) rfl ?_)
  (refine nx (aA (gN rfl) rfl rfl rfl rfl rfl) rfl ?_)
  show AWp _ _ _ _ _ _ _
  rcases skR_bad hbad with g | ⟨g, g2⟩
  · refine aS (aS (aR ?_))
    (refine nx (aM (gN rfl) rfl rfl rfl rfl rfl) rfl ?_)
    (refine nx (a_lss (gN rfl) rfl rfl rfl rfl rfl rfl) rfl ?_)
    (refine nx (aM (gN rfl) rfl rfl rfl rfl rfl) rfl ?_)
    (refine ⟨_, _, _, a_off (go_off rfl rfl rfl rfl (by first | rfl | assumption | (simp; done) | (simp [*]; done))) rfl rfl rfl, rfl, ?_⟩)
    (refine ⟨_, _, _, a_off (go_off rfl rfl rfl rfl (by first | rfl | assumption | (simp; done) | (simp [*]; done))) rfl rfl rfl, rfl, ?_⟩)
    (refine ⟨_, _, _, aPt (gN rfl) rfl rfl rfl rfl rfl ?hb rfl, rfl, ?_⟩; case hb => (first | rfl | assumption | (simp; done)))
    show AWp _ _ _ _ _ _ _
    refine aC rfl (fun _ => ?_) (fun h => by cases h)
    refine aS (aR ?_)
    (refine nx (aM (gN rfl) rfl rfl rfl rfl rfl) rfl ?_)
    (refine nx (aNc (gN rfl) rfl rfl rfl rfl rfl) rfl ?_)
    (refine nx (aF (gN rfl) rfl rfl rfl rfl rfl rfl rfl rfl rfl) rfl ?_)
    (refine nx (a_store_fld (gN rfl) rfl rfl rfl rfl rfl rfl rfl rfl rfl rfl rfl rfl) rfl ?_)
    show AWp _ _ _ _ _ _ _
    refine aS (aR ?_)
    (refine nx (aL (gN rfl) rfl rfl rfl rfl rfl rfl rfl rfl rfl rfl rfl rfl) rfl ?_)
    (refine nx (aSt (gN rfl) rfl rfl rfl rfl rfl rfl rfl rfl rfl rfl) rfl ?_)
    show AWp _ _ _ _ _ _ _
    exact aT ⟨.inr rfl, _, Wk.refl _, rfl, rfl, rfl, rfl, rfl, rfl, rfl, rfl, rfl, rfl, rfl, rfl, rfl, trivial⟩
  · refine aS (aS (aR ?_))
    (refine nx (aM (gN rfl) rfl rfl rfl rfl rfl) rfl ?_)
    (refine nx (a_lss (gN rfl) rfl rfl rfl rfl rfl rfl) rfl ?_)
    (refine nx (aM (gN rfl) rfl rfl rfl rfl rfl) rfl ?_)
    (refine nx (aM (gd_on rfl rfl rfl rfl (by first | rfl | assumption | (simp; done))) rfl rfl rfl rfl rfl) rfl ?_)
    (refine nx (a_gtr (gd_on rfl rfl rfl rfl (by first | rfl | assumption | (simp; done))) rfl rfl rfl rfl rfl rfl) rfl ?_)
    (refine ⟨_, _, _, aPf (gN rfl) rfl rfl rfl rfl rfl ?hb rfl, rfl, ?_⟩; case hb => (first | rfl | assumption | (simp; done)))
    show AWp _ _ _ _ _ _ _
    refine aC rfl (fun _ => ?_) (fun h => ?_)
    · refine aS (aR ?_)
      (refine nx (aM (gN rfl) rfl rfl rfl rfl rfl) rfl ?_)
      (refine nx (aNc (gN rfl) rfl rfl rfl rfl rfl) rfl ?_)
      (refine nx (aF (gN rfl) rfl rfl rfl rfl rfl rfl rfl rfl rfl) rfl ?_)
      (refine nx (a_store_fld (gN rfl) rfl rfl rfl rfl rfl rfl rfl rfl rfl rfl rfl rfl) rfl ?_)
      show AWp _ _ _ _ _ _ _
      refine aS (aR ?_)
      (refine nx (aL (gN rfl) rfl rfl rfl rfl rfl rfl rfl rfl rfl rfl rfl rfl) rfl ?_)
      (refine nx (aSt (gN rfl) rfl rfl rfl rfl rfl rfl rfl rfl rfl rfl) rfl ?_)
      show AWp _ _ _ _ _ _ _
      exact aT ⟨.inr rfl, _, Wk.refl _, rfl, rfl, rfl, rfl, rfl, rfl, rfl, rfl, rfl, rfl, rfl, rfl, rfl, trivial⟩
    · have h : decide ((skR r2).2 > 32) = false := h
      rw [g2] at h; cases h
-- 
set_option maxHeartbeats 4000000 in
theorem litD0n_abs (L : List By) (hL : L.length ≤ 50000) (I : Nat) (s : Rs) (hs : s.bad = false) (x : By) (hx : L[I]? = some x) (hneg : decide (x = [126]) = false) (n : Nat) (r : Option (Nat × Nat)) (hr : skI L n 1 I none = some r) (at_ m : Nat) (hr2 : r = some (at_, m)) (hm : m ≤ 32) (y : By) (hy : L[at_]? = some y) (hys : y = [33, 61]) (n2 : Nat) (r2 : Option (Nat × Nat)) (hr2' : skI L n2 1 (at_ + 1) none = some r2) (e_ m2 : Nat) (hr3 : r2 = some (e_, m2)) (hm2 : m2 ≤ 32) (t1 : Tm) (s1 : Rs) (ht1 : AFunO Tryd.prog 29 (rdR L I s) [.bp 350001 0 [], .val (.b false)] (.val t1.cw) (rdR L at_ s1)) (hb1 : s1.bad = true) :
    AFunO Tryd.prog 18 (rdR L I s) [.bp 350001 0 []] (.val (.row [.b false, t1.cw, .row [.i 0, .lst []]])) (rdR L at_ s1) := by
  subst hr2
  have hIl : I < L.length := (List.getElem?_eq_some_iff.1 hx).1
  obtain ⟨sb, sg, sv_⟩ := s
  have hs : sb = false := hs
  subst hs
  have his := is12_abs L I false sg sv_ [126] x hx
  rw [hneg] at his
  simp only [Bool.not_false, Bool.true_and] at his
  have hsk := skip12_abs L (by omega) I false sg sv_ n 1 I _ (by omega) hr
  simp only [skR] at hsk
  refine afunO_of Tryd.func18 Tryd.ntmps18 rfl rfl rfl rfl rfl rfl ?_
  intro w U hU
  refine aS (aR ?_)
  (refine nx (a_alloc (gN rfl) rfl rfl rfl rfl rfl rfl rfl rfl rfl rfl) (by kernel_rfl) ?_)
  show AWp _ _ _ _ _ _ _
  refine aS (aR ?_)
  (refine nx (aM (gN rfl) rfl rfl rfl rfl rfl) rfl ?_)
  (refine nx (a_callO (gN rfl) rfl rfl rfl rfl rfl (his) (by repeat (first | exact trivial | refine ⟨rfl, ?_⟩)) (by first | rfl | kernel_rfl) (by first | rfl | kernel_rfl) (by first | rfl | kernel_rfl) (by first | rfl | kernel_rfl) (hnb_of (by first | rfl | kernel_rfl))) rfl ?_)
  (refine nx (a_build (gN rfl) rfl rfl rfl rfl rfl rfl rfl rfl rfl rfl rfl) rfl ?_)
  (refine nx (a_alloc (gN rfl) rfl rfl rfl rfl rfl rfl rfl rfl rfl rfl) (by kernel_rfl) ?_)
  (refine nx (aSt (gN rfl) rfl rfl rfl rfl rfl rfl rfl rfl rfl rfl) rfl ?_)
  show AWp _ _ _ _ _ _ _
  refine aS (aS (aR ?_))
  (refine nx (aF (gN rfl) rfl rfl rfl rfl rfl rfl rfl rfl rfl) rfl ?_)
  (refine nx (aLb (gN rfl) rfl rfl rfl rfl rfl rfl rfl rfl rfl rfl rfl rfl) rfl ?_)
  show AWp _ _ _ _ _ _ _
  refine aC rfl (fun h => by cases h) (fun _ => aK ?_)
  show AWp _ _ _ _ _ _ _
  refine aS (aR ?_)
  (refine nx (aM (gN rfl) rfl rfl rfl rfl rfl) rfl ?_)
  (refine nx (aM (gN rfl) rfl rfl rfl rfl rfl) rfl ?_)
  (refine nx (aNc (gN rfl) rfl rfl rfl rfl rfl) rfl ?_)
  (refine nx (aF (gN rfl) rfl rfl rfl rfl rfl rfl rfl rfl rfl) rfl ?_)
  (refine nx (aLf (gN rfl) rfl rfl rfl rfl rfl rfl rfl rfl rfl rfl rfl rfl rfl) rfl ?_)
  (refine nx (a_callO (gN rfl) rfl rfl rfl rfl rfl (hsk) (by repeat (first | exact trivial | refine ⟨rfl, ?_⟩)) (by first | rfl | kernel_rfl) (by first | rfl | kernel_rfl) (by first | rfl | kernel_rfl) (by first | rfl | kernel_rfl) (hnb_of (by first | rfl | kernel_rfl))) rfl ?_)
  (refine nx (aM (gN rfl) rfl rfl rfl rfl rfl) rfl ?_)
  (refine nx (aX (gN rfl) rfl rfl rfl rfl rfl rfl) rfl ?_)
  (refine nx (aX (gN rfl) rfl rfl rfl rfl rfl rfl) rfl ?_)
  (refine nx (aA (gN rfl) rfl rfl rfl rfl rfl) rfl ?_)
  (refine nx (aA (gN rfl) rfl rfl rfl rfl rfl) rfl ?_)
  show AWp _ _ _ _ _ _ _
  obtain ⟨g, g2⟩ : decide ((at_ : Int) < 0) = false ∧ decide ((m : Int) > 32) = false := skR_good at_ m hm
  have hatl0 : at_ < L.length := (List.getElem?_eq_some_iff.1 hy).1
  refine aS (aS (aR ?_))
  (refine nx (aM (gN rfl) rfl rfl rfl rfl rfl) rfl ?_)
  (refine nx (a_lss (gN rfl) rfl rfl rfl rfl rfl rfl) rfl ?_)
  (refine nx (aM (gN rfl) rfl rfl rfl rfl rfl) rfl ?_)
  (refine nx (aM (gd_on rfl rfl rfl rfl (by first | rfl | assumption | (simp; done))) rfl rfl rfl rfl rfl) rfl ?_)
  (refine nx (a_gtr (gd_on rfl rfl rfl rfl (by first | rfl | assumption | (simp; done))) rfl rfl rfl rfl rfl rfl) rfl ?_)
  (refine ⟨_, _, _, aPf (gN rfl) rfl rfl rfl rfl rfl ?hb rfl, rfl, ?_⟩; case hb => (first | rfl | assumption | (simp; done)))
  show AWp _ _ _ _ _ _ _
  refine aC rfl (fun h => ?_) (fun h => aK ?_)
  · have h : decide ((m : Int) > 32) = true := h
    rw [g2] at h; cases h
  show AWp _ _ _ _ _ _ _
  have hatl : at_ < L.length := (List.getElem?_eq_some_iff.1 hy).1
  have hy' := sv_at hy
  have hsv := svs_size L
  refine aS (aR ?_)
  (refine nx (aM (gN rfl) rfl rfl rfl rfl rfl) rfl ?_)
  (refine nx (aNc (gN rfl) rfl rfl rfl rfl rfl) rfl ?_)
  (refine nx (aF (gN rfl) rfl rfl rfl rfl rfl rfl rfl rfl rfl) rfl ?_)
  (refine nx (aLf (gN rfl) rfl rfl rfl rfl rfl rfl rfl rfl rfl rfl rfl rfl rfl) rfl ?_)
  (refine nx (aM (gN rfl) rfl rfl rfl rfl rfl) rfl ?_)
  (refine nx (a_index (j := at_) (gN rfl) rfl rfl rfl rfl rfl rfl rfl rfl rfl (hy') rfl (hsv)) rfl ?_)
  (refine nx (a_load_ad (gN rfl) rfl rfl rfl rfl rfl rfl rfl rfl rfl) rfl ?_)
  (refine nx (aA (gN rfl) rfl rfl rfl rfl rfl) rfl ?_)
  show AWp _ _ _ _ _ _ _
  subst hys
  refine aS (aS (aR ?_))
  (refine nx (aM (gN rfl) rfl rfl rfl rfl rfl) rfl ?_)
  (refine nx (a_sneq (gN rfl) rfl rfl rfl rfl rfl rfl rfl) rfl ?_)
  (refine nx (aM (gN rfl) rfl rfl rfl rfl rfl) rfl ?_)
  (refine nx (aM (gd_on rfl rfl rfl rfl (by first | rfl | assumption | (simp; done))) rfl rfl rfl rfl rfl) rfl ?_)
  (refine nx (a_sneq (gd_on rfl rfl rfl rfl (by first | rfl | assumption | (simp; done))) rfl rfl rfl rfl rfl rfl rfl) rfl ?_)
  (refine ⟨_, _, _, aPt (gN rfl) rfl rfl rfl rfl rfl ?hb rfl, rfl, ?_⟩; case hb => (first | rfl | assumption | (simp; done)))
  show AWp _ _ _ _ _ _ _
  refine aC rfl (fun h => by cases h) (fun h => aK ?_)
  show AWp _ _ _ _ _ _ _
  subst hr3
  have hsk2 := skip12_abs L (by omega) I false sg sv_ n2 1 (at_ + 1) _ (by omega) hr2'
  simp only [skR] at hsk2
  refine aS (aR ?_)
  (refine nx (aM (gN rfl) rfl rfl rfl rfl rfl) rfl ?_)
  (refine nx (aM (gN rfl) rfl rfl rfl rfl rfl) rfl ?_)
  (refine nx (a_add (gN rfl) rfl rfl rfl rfl rfl rfl (by first | omega | (simp only [List.length_map, List.length_append, List.length_cons, List.length_nil] <;> omega) | (simp <;> omega))) rfl ?_)
  (refine nx (a_callO (gN rfl) rfl rfl rfl rfl rfl (hsk2) (by repeat (first | exact trivial | refine ⟨rfl, ?_⟩)) (by first | rfl | kernel_rfl) (by first | rfl | kernel_rfl) (by first | rfl | kernel_rfl) (by first | rfl | kernel_rfl) (hnb_of (by first | rfl | kernel_rfl))) rfl ?_)
  (refine nx (aM (gN rfl) rfl rfl rfl rfl rfl) rfl ?_)
  (refine nx (aX (gN rfl) rfl rfl rfl rfl rfl rfl) rfl ?_)
  (refine nx (aX (gN rfl) rfl rfl rfl rfl rfl rfl) rfl ?_)
  (refine nx (aA (gN rfl) rfl rfl rfl rfl rfl) rfl ?_)
  (refine nx (aA (gN rfl) rfl rfl rfl rfl rfl) rfl ?_)
  show AWp _ _ _ _ _ _ _
  obtain ⟨g5, g6⟩ : decide ((e_ : Int) < 0) = false ∧ decide ((m2 : Int) > 32) = false := skR_good e_ m2 hm2
  refine aS (aS (aR ?_))
  (refine nx (aM (gN rfl) rfl rfl rfl rfl rfl) rfl ?_)
  (refine nx (a_lss (gN rfl) rfl rfl rfl rfl rfl rfl) rfl ?_)
  (refine nx (aM (gN rfl) rfl rfl rfl rfl rfl) rfl ?_)
  (refine nx (aM (gd_on rfl rfl rfl rfl (by first | rfl | assumption | (simp; done))) rfl rfl rfl rfl rfl) rfl ?_)
  (refine nx (a_gtr (gd_on rfl rfl rfl rfl (by first | rfl | assumption | (simp; done))) rfl rfl rfl rfl rfl rfl) rfl ?_)
  (refine ⟨_, _, _, aPf (gN rfl) rfl rfl rfl rfl rfl ?hb rfl, rfl, ?_⟩; case hb => (first | rfl | assumption | (simp; done)))
  show AWp _ _ _ _ _ _ _
  refine aC rfl (fun h => ?_) (fun h => aK ?_)
  · have h : decide ((m2 : Int) > 32) = true := h
    rw [g6] at h; cases h
  show AWp _ _ _ _ _ _ _
  obtain ⟨b1, g1_, v1_⟩ := s1
  have hb1 : b1 = true := hb1
  subst hb1
  refine aS (aR ?_)
  (refine nx (aM (gN rfl) rfl rfl rfl rfl rfl) rfl ?_)
  (refine nx (a_callO (gN rfl) rfl rfl rfl rfl rfl (ht1) (by repeat (first | exact trivial | refine ⟨rfl, ?_⟩)) (by first | rfl | kernel_rfl) (by first | rfl | kernel_rfl) (by first | rfl | kernel_rfl) (by first | rfl | kernel_rfl) (hnb_of (by first | rfl | kernel_rfl))) rfl ?_)
  (refine nx (aF (gN rfl) rfl rfl rfl rfl rfl rfl rfl rfl rfl) rfl ?_)
  (refine nx (a_store (gN rfl) rfl rfl rfl rfl rfl rfl rfl rfl rfl rfl) rfl ?_)
  show AWp _ _ _ _ _ _ _
  have htk2 := take12_no L at_ true g1_ v1_ [33, 61] [33, 61] hy rfl
  refine aS (aR ?_)
  (refine nx (aM (gN rfl) rfl rfl rfl rfl rfl) rfl ?_)
  (refine nx (aM (gN rfl) rfl rfl rfl rfl rfl) rfl ?_)
  (refine nx (a_callO (gN rfl) rfl rfl rfl rfl rfl (htk2) (by repeat (first | exact trivial | refine ⟨rfl, ?_⟩)) (by first | rfl | kernel_rfl) (by first | rfl | kernel_rfl) (by first | rfl | kernel_rfl) (by first | rfl | kernel_rfl) (hnb_of (by first | rfl | kernel_rfl))) rfl ?_)
  show AWp _ _ _ _ _ _ _
  refine aS (aS (aR ?_))
  (refine nx (aM (gN rfl) rfl rfl rfl rfl rfl) rfl ?_)
  (refine nx (aNc (gN rfl) rfl rfl rfl rfl rfl) rfl ?_)
  (refine nx (aF (gN rfl) rfl rfl rfl rfl rfl rfl rfl rfl rfl) rfl ?_)
  (refine nx (aLf (gN rfl) rfl rfl rfl rfl rfl rfl rfl rfl rfl rfl rfl rfl rfl) rfl ?_)
  show AWp _ _ _ _ _ _ _
  refine aC rfl (fun _ => ?_) (fun h => by cases h)
  refine aS (aR ?_)
  (refine nx (aL (gN rfl) rfl rfl rfl rfl rfl rfl rfl rfl rfl rfl rfl rfl) rfl ?_)
  (refine nx (aSt (gN rfl) rfl rfl rfl rfl rfl rfl rfl rfl rfl rfl) rfl ?_)
  show AWp _ _ _ _ _ _ _
  exact aT ⟨.inr rfl, _, Wk.refl _, rfl, rfl, rfl, rfl, rfl, rfl, rfl, rfl, rfl, rfl, rfl, rfl, rfl, trivial⟩
-- 
set_option maxHeartbeats 4000000 in
theorem litE0n_abs (L : List By) (hL : L.length ≤ 50000) (I : Nat) (s : Rs) (hs : s.bad = false) (x : By) (hx : L[I]? = some x) (hneg : decide (x = [126]) = false) (n : Nat) (r : Option (Nat × Nat)) (hr : skI L n 1 I none = some r) (at_ m : Nat) (hr2 : r = some (at_, m)) (hm : m ≤ 32) (y : By) (hy : L[at_]? = some y) (hys : y = [33, 61]) (n2 : Nat) (r2 : Option (Nat × Nat)) (hr2' : skI L n2 1 (at_ + 1) none = some r2) (e_ m2 : Nat) (hr3 : r2 = some (e_, m2)) (hm2 : m2 ≤ 32) (t1 : Tm) (s1 : Rs) (ht1 : AFunO Tryd.prog 29 (rdR L I s) [.bp 350001 0 [], .val (.b false)] (.val t1.cw) (rdR L at_ s1)) (hb1 : s1.bad = false) (t2 : Tm) (s2 : Rs) (I2 : Nat) (ht2 : AFunO Tryd.prog 29 (rdR L (at_ + 1) s1) [.bp 350001 0 [], .val (.b false)] (.val t2.cw) (rdR L I2 s2)) :
    AFunO Tryd.prog 18 (rdR L I s) [.bp 350001 0 []] (.val (.row [.b true, t1.cw, t2.cw])) (rdR L I2 s2) := by
  subst hr2
  have hIl : I < L.length := (List.getElem?_eq_some_iff.1 hx).1
  obtain ⟨sb, sg, sv_⟩ := s
  have hs : sb = false := hs
  subst hs
  have his := is12_abs L I false sg sv_ [126] x hx
  rw [hneg] at his
  simp only [Bool.not_false, Bool.true_and] at his
  have hsk := skip12_abs L (by omega) I false sg sv_ n 1 I _ (by omega) hr
  simp only [skR] at hsk
  refine afunO_of Tryd.func18 Tryd.ntmps18 rfl rfl rfl rfl rfl rfl ?_
  intro w U hU
  refine aS (aR ?_)
  (refine nx (a_alloc (gN rfl) rfl rfl rfl rfl rfl rfl rfl rfl rfl rfl) (by kernel_rfl) ?_)
  show AWp _ _ _ _ _ _ _
  refine aS (aR ?_)
  (refine nx (aM (gN rfl) rfl rfl rfl rfl rfl) rfl ?_)
  (refine nx (a_callO (gN rfl) rfl rfl rfl rfl rfl (his) (by repeat (first | exact trivial | refine ⟨rfl, ?_⟩)) (by first | rfl | kernel_rfl) (by first | rfl | kernel_rfl) (by first | rfl | kernel_rfl) (by first | rfl | kernel_rfl) (hnb_of (by first | rfl | kernel_rfl))) rfl ?_)
  (refine nx (a_build (gN rfl) rfl rfl rfl rfl rfl rfl rfl rfl rfl rfl rfl) rfl ?_)
  (refine nx (a_alloc (gN rfl) rfl rfl rfl rfl rfl rfl rfl rfl rfl rfl) (by kernel_rfl) ?_)
  (refine nx (aSt (gN rfl) rfl rfl rfl rfl rfl rfl rfl rfl rfl rfl) rfl ?_)
  show AWp _ _ _ _ _ _ _
  refine aS (aS (aR ?_))
  (refine nx (aF (gN rfl) rfl rfl rfl rfl rfl rfl rfl rfl rfl) rfl ?_)
  (refine nx (aLb (gN rfl) rfl rfl rfl rfl rfl rfl rfl rfl rfl rfl rfl rfl) rfl ?_)
  show AWp _ _ _ _ _ _ _
  refine aC rfl (fun h => by cases h) (fun _ => aK ?_)
  show AWp _ _ _ _ _ _ _
  refine aS (aR ?_)
  (refine nx (aM (gN rfl) rfl rfl rfl rfl rfl) rfl ?_)
  (refine nx (aM (gN rfl) rfl rfl rfl rfl rfl) rfl ?_)
  (refine nx (aNc (gN rfl) rfl rfl rfl rfl rfl) rfl ?_)
  (refine nx (aF (gN rfl) rfl rfl rfl rfl rfl rfl rfl rfl rfl) rfl ?_)
  (refine nx (aLf (gN rfl) rfl rfl rfl rfl rfl rfl rfl rfl rfl rfl rfl rfl rfl) rfl ?_)
  (refine nx (a_callO (gN rfl) rfl rfl rfl rfl rfl (hsk) (by repeat (first | exact trivial | refine ⟨rfl, ?_⟩)) (by first | rfl | kernel_rfl) (by first | rfl | kernel_rfl) (by first | rfl | kernel_rfl) (by first | rfl | kernel_rfl) (hnb_of (by first | rfl | kernel_rfl))) rfl ?_)
  (refine nx (aM (gN rfl) rfl rfl rfl rfl rfl) rfl ?_)
  (refine nx (aX (gN rfl) rfl rfl rfl rfl rfl rfl) rfl ?_)
  (refine nx (aX (gN rfl) rfl rfl rfl rfl rfl rfl) rfl ?_)
  (refine nx (aA (gN rfl) rfl rfl rfl rfl rfl) rfl ?_)
  (refine nx (aA (gN rfl) rfl rfl rfl rfl rfl) rfl ?_)
  show AWp _ _ _ _ _ _ _
  obtain ⟨g, g2⟩ : decide ((at_ : Int) < 0) = false ∧ decide ((m : Int) > 32) = false := skR_good at_ m hm
  have hatl0 : at_ < L.length := (List.getElem?_eq_some_iff.1 hy).1
  refine aS (aS (aR ?_))
  (refine nx (aM (gN rfl) rfl rfl rfl rfl rfl) rfl ?_)
  (refine nx (a_lss (gN rfl) rfl rfl rfl rfl rfl rfl) rfl ?_)
  (refine nx (aM (gN rfl) rfl rfl rfl rfl rfl) rfl ?_)
  (refine nx (aM (gd_on rfl rfl rfl rfl (by first | rfl | assumption | (simp; done))) rfl rfl rfl rfl rfl) rfl ?_)
  (refine nx (a_gtr (gd_on rfl rfl rfl rfl (by first | rfl | assumption | (simp; done))) rfl rfl rfl rfl rfl rfl) rfl ?_)
  (refine ⟨_, _, _, aPf (gN rfl) rfl rfl rfl rfl rfl ?hb rfl, rfl, ?_⟩; case hb => (first | rfl | assumption | (simp; done)))
  show AWp _ _ _ _ _ _ _
  refine aC rfl (fun h => ?_) (fun h => aK ?_)
  · have h : decide ((m : Int) > 32) = true := h
    rw [g2] at h; cases h
  show AWp _ _ _ _ _ _ _
  have hatl : at_ < L.length := (List.getElem?_eq_some_iff.1 hy).1
  have hy' := sv_at hy
  have hsv := svs_size L
  refine aS (aR ?_)
  (refine nx (aM (gN rfl) rfl rfl rfl rfl rfl) rfl ?_)
  (refine nx (aNc (gN rfl) rfl rfl rfl rfl rfl) rfl ?_)
  (refine nx (aF (gN rfl) rfl rfl rfl rfl rfl rfl rfl rfl rfl) rfl ?_)
  (refine nx (aLf (gN rfl) rfl rfl rfl rfl rfl rfl rfl rfl rfl rfl rfl rfl rfl) rfl ?_)
  (refine nx (aM (gN rfl) rfl rfl rfl rfl rfl) rfl ?_)
  (refine nx (a_index (j := at_) (gN rfl) rfl rfl rfl rfl rfl rfl rfl rfl rfl (hy') rfl (hsv)) rfl ?_)
  (refine nx (a_load_ad (gN rfl) rfl rfl rfl rfl rfl rfl rfl rfl rfl) rfl ?_)
  (refine nx (aA (gN rfl) rfl rfl rfl rfl rfl) rfl ?_)
  show AWp _ _ _ _ _ _ _
  subst hys
  refine aS (aS (aR ?_))
  (refine nx (aM (gN rfl) rfl rfl rfl rfl rfl) rfl ?_)
  (refine nx (a_sneq (gN rfl) rfl rfl rfl rfl rfl rfl rfl) rfl ?_)
  (refine nx (aM (gN rfl) rfl rfl rfl rfl rfl) rfl ?_)
  (refine nx (aM (gd_on rfl rfl rfl rfl (by first | rfl | assumption | (simp; done))) rfl rfl rfl rfl rfl) rfl ?_)
  (refine nx (a_sneq (gd_on rfl rfl rfl rfl (by first | rfl | assumption | (simp; done))) rfl rfl rfl rfl rfl rfl rfl) rfl ?_)
  (refine ⟨_, _, _, aPt (gN rfl) rfl rfl rfl rfl rfl ?hb rfl, rfl, ?_⟩; case hb => (first | rfl | assumption | (simp; done)))
  show AWp _ _ _ _ _ _ _
  refine aC rfl (fun h => by cases h) (fun h => aK ?_)
  show AWp _ _ _ _ _ _ _
  subst hr3
  have hsk2 := skip12_abs L (by omega) I false sg sv_ n2 1 (at_ + 1) _ (by omega) hr2'
  simp only [skR] at hsk2
  refine aS (aR ?_)
  (refine nx (aM (gN rfl) rfl rfl rfl rfl rfl) rfl ?_)
  (refine nx (aM (gN rfl) rfl rfl rfl rfl rfl) rfl ?_)
  (refine nx (a_add (gN rfl) rfl rfl rfl rfl rfl rfl (by first | omega | (simp only [List.length_map, List.length_append, List.length_cons, List.length_nil] <;> omega) | (simp <;> omega))) rfl ?_)
  (refine nx (a_callO (gN rfl) rfl rfl rfl rfl rfl (hsk2) (by repeat (first | exact trivial | refine ⟨rfl, ?_⟩)) (by first | rfl | kernel_rfl) (by first | rfl | kernel_rfl) (by first | rfl | kernel_rfl) (by first | rfl | kernel_rfl) (hnb_of (by first | rfl | kernel_rfl))) rfl ?_)
  (refine nx (aM (gN rfl) rfl rfl rfl rfl rfl) rfl ?_)
  (refine nx (aX (gN rfl) rfl rfl rfl rfl rfl rfl) rfl ?_)
  (refine nx (aX (gN rfl) rfl rfl rfl rfl rfl rfl) rfl ?_)
  (refine nx (aA (gN rfl) rfl rfl rfl rfl rfl) rfl ?_)
  (refine nx (aA (gN rfl) rfl rfl rfl rfl rfl) rfl ?_)
  show AWp _ _ _ _ _ _ _
  obtain ⟨g5, g6⟩ : decide ((e_ : Int) < 0) = false ∧ decide ((m2 : Int) > 32) = false := skR_good e_ m2 hm2
  refine aS (aS (aR ?_))
  (refine nx (aM (gN rfl) rfl rfl rfl rfl rfl) rfl ?_)
  (refine nx (a_lss (gN rfl) rfl rfl rfl rfl rfl rfl) rfl ?_)
  (refine nx (aM (gN rfl) rfl rfl rfl rfl rfl) rfl ?_)
  (refine nx (aM (gd_on rfl rfl rfl rfl (by first | rfl | assumption | (simp; done))) rfl rfl rfl rfl rfl) rfl ?_)
  (refine nx (a_gtr (gd_on rfl rfl rfl rfl (by first | rfl | assumption | (simp; done))) rfl rfl rfl rfl rfl rfl) rfl ?_)
  (refine ⟨_, _, _, aPf (gN rfl) rfl rfl rfl rfl rfl ?hb rfl, rfl, ?_⟩; case hb => (first | rfl | assumption | (simp; done)))
  show AWp _ _ _ _ _ _ _
  refine aC rfl (fun h => ?_) (fun h => aK ?_)
  · have h : decide ((m2 : Int) > 32) = true := h
    rw [g6] at h; cases h
  show AWp _ _ _ _ _ _ _
  obtain ⟨b1, g1_, v1_⟩ := s1
  have hb1 : b1 = false := hb1
  subst hb1
  refine aS (aR ?_)
  (refine nx (aM (gN rfl) rfl rfl rfl rfl rfl) rfl ?_)
  (refine nx (a_callO (gN rfl) rfl rfl rfl rfl rfl (ht1) (by repeat (first | exact trivial | refine ⟨rfl, ?_⟩)) (by first | rfl | kernel_rfl) (by first | rfl | kernel_rfl) (by first | rfl | kernel_rfl) (by first | rfl | kernel_rfl) (hnb_of (by first | rfl | kernel_rfl))) rfl ?_)
  (refine nx (aF (gN rfl) rfl rfl rfl rfl rfl rfl rfl rfl rfl) rfl ?_)
  (refine nx (a_store (gN rfl) rfl rfl rfl rfl rfl rfl rfl rfl rfl rfl) rfl ?_)
  show AWp _ _ _ _ _ _ _
  have htk2 := take12_yes L at_ g1_ v1_ [33, 61] hy (by omega)
  refine aS (aR ?_)
  (refine nx (aM (gN rfl) rfl rfl rfl rfl rfl) rfl ?_)
  (refine nx (aM (gN rfl) rfl rfl rfl rfl rfl) rfl ?_)
  (refine nx (a_callO (gN rfl) rfl rfl rfl rfl rfl (htk2) (by repeat (first | exact trivial | refine ⟨rfl, ?_⟩)) (by first | rfl | kernel_rfl) (by first | rfl | kernel_rfl) (by first | rfl | kernel_rfl) (by first | rfl | kernel_rfl) (hnb_of (by first | rfl | kernel_rfl))) rfl ?_)
  show AWp _ _ _ _ _ _ _
  refine aS (aS (aR ?_))
  (refine nx (aM (gN rfl) rfl rfl rfl rfl rfl) rfl ?_)
  (refine nx (aNc (gN rfl) rfl rfl rfl rfl rfl) rfl ?_)
  (refine nx (aF (gN rfl) rfl rfl rfl rfl rfl rfl rfl rfl rfl) rfl ?_)
  (refine nx (aLf (gN rfl) rfl rfl rfl rfl rfl rfl rfl rfl rfl rfl rfl rfl rfl) rfl ?_)
  show AWp _ _ _ _ _ _ _
  refine aC rfl (fun h => by cases h) (fun _ => aK ?_)
  show AWp _ _ _ _ _ _ _
  refine aS (aR ?_)
  (refine nx (aM (gN rfl) rfl rfl rfl rfl rfl) rfl ?_)
  (refine nx (a_callO (gN rfl) rfl rfl rfl rfl rfl (ht2) (by repeat (first | exact trivial | refine ⟨rfl, ?_⟩)) (by first | rfl | kernel_rfl) (by first | rfl | kernel_rfl) (by first | rfl | kernel_rfl) (by first | rfl | kernel_rfl) (hnb_of (by first | rfl | kernel_rfl))) rfl ?_)
  (refine nx (aF (gN rfl) rfl rfl rfl rfl rfl rfl rfl rfl rfl) rfl ?_)
  (refine nx (a_store (gN rfl) rfl rfl rfl rfl rfl rfl rfl rfl rfl rfl) rfl ?_)
  show AWp _ _ _ _ _ _ _
  refine aS (aS (aR ?_))
  (refine nx (aM (gN rfl) rfl rfl rfl rfl rfl) rfl ?_)
  (refine nx (a_seql (gN rfl) rfl rfl rfl rfl rfl rfl rfl) rfl ?_)
  show AWp _ _ _ _ _ _ _
  refine aC rfl (fun _ => ?_) (fun h => by cases h)
  refine aR ?_
  (refine nx (aF (gN rfl) rfl rfl rfl rfl rfl rfl rfl rfl rfl) rfl ?_)
  (refine nx (aLb (gN rfl) rfl rfl rfl rfl rfl rfl rfl rfl rfl rfl rfl rfl) rfl ?_)
  (refine nx (a_not (gN rfl) rfl rfl rfl rfl rfl) rfl ?_)
  (refine nx (aF (gN rfl) rfl rfl rfl rfl rfl rfl rfl rfl rfl) rfl ?_)
  (refine nx (a_store (gN rfl) rfl rfl rfl rfl rfl rfl rfl rfl rfl rfl) rfl ?_)
  show AWp _ _ _ _ _ _ _
  refine aS (aR ?_)
  (refine nx (aL (gN rfl) rfl rfl rfl rfl rfl rfl rfl rfl rfl rfl rfl rfl) rfl ?_)
  (refine nx (aSt (gN rfl) rfl rfl rfl rfl rfl rfl rfl rfl rfl rfl) rfl ?_)
  show AWp _ _ _ _ _ _ _
  exact aT ⟨.inr rfl, _, Wk.refl _, rfl, rfl, rfl, rfl, rfl, rfl, rfl, rfl, rfl, rfl, rfl, rfl, rfl, trivial⟩
-- 
set_option maxHeartbeats 4000000 in
theorem litA1_abs (L : List By) (hL : L.length ≤ 50000) (I : Nat) (s : Rs) (hs : s.bad = false) (x : By) (hx : L[I]? = some x) (hneg : decide (x = [126]) = true) (n : Nat) (r : Option (Nat × Nat)) (hr : skI L n 1 (I + 1) none = some r) (hbad : skBad r = true) :
    AFunO Tryd.prog 18 (rdR L I s) [.bp 350001 0 []] (.val (.row [.b true, .row [.i 0, .lst []], .row [.i 0, .lst []]])) (rdR L (I + 1) ⟨true, s.g, s.vs⟩) := by
  have hIl : I < L.length := (List.getElem?_eq_some_iff.1 hx).1
  obtain ⟨sb, sg, sv_⟩ := s
  have hs : sb = false := hs
  subst hs
  have his := is12_abs L I false sg sv_ [126] x hx
  rw [hneg] at his
  simp only [Bool.not_false, Bool.true_and] at his
  have hxe : x = [126] := of_decide_eq_true hneg
  have htk := take12_yes L I sg sv_ [126] (by rw [← hxe]; exact hx) (by omega)
  have hsk := skip12_abs L (by omega) (I + 1) false sg sv_ n 1 (I + 1) _ (by omega) hr
  refine afunO_of Tryd.func18 Tryd.ntmps18 rfl rfl rfl rfl rfl rfl ?_
  intro w U hU
  refine aS (aR ?_)
  (refine nx (a_alloc (gN rfl) rfl rfl rfl rfl rfl rfl rfl rfl rfl rfl) (by kernel_rfl) ?_)
  show AWp _ _ _ _ _ _ _
  refine aS (aR ?_)
  (refine nx (aM (gN rfl) rfl rfl rfl rfl rfl) rfl ?_)
  (refine nx (a_callO (gN rfl) rfl rfl rfl rfl rfl (his) (by repeat (first | exact trivial | refine ⟨rfl, ?_⟩)) (by first | rfl | kernel_rfl) (by first | rfl | kernel_rfl) (by first | rfl | kernel_rfl) (by first | rfl | kernel_rfl) (hnb_of (by first | rfl | kernel_rfl))) rfl ?_)
  (refine nx (a_build (gN rfl) rfl rfl rfl rfl rfl rfl rfl rfl rfl rfl rfl) rfl ?_)
  (refine nx (a_alloc (gN rfl) rfl rfl rfl rfl rfl rfl rfl rfl rfl rfl) (by kernel_rfl) ?_)
  (refine nx (aSt (gN rfl) rfl rfl rfl rfl rfl rfl rfl rfl rfl rfl) rfl ?_)
  show AWp _ _ _ _ _ _ _
  refine aS (aS (aR ?_))
  (refine nx (aF (gN rfl) rfl rfl rfl rfl rfl rfl rfl rfl rfl) rfl ?_)
  (refine nx (aLb (gN rfl) rfl rfl rfl rfl rfl rfl rfl rfl rfl rfl rfl rfl) rfl ?_)
  show AWp _ _ _ _ _ _ _
  refine aC rfl (fun _ => ?_) (fun h => by cases h)
  refine aR ?_
  (refine nx (aM (gN rfl) rfl rfl rfl rfl rfl) rfl ?_)
  (refine nx (a_callO (gN rfl) rfl rfl rfl rfl rfl (htk) (by repeat (first | exact trivial | refine ⟨rfl, ?_⟩)) (by first | rfl | kernel_rfl) (by first | rfl | kernel_rfl) (by first | rfl | kernel_rfl) (by first | rfl | kernel_rfl) (hnb_of (by first | rfl | kernel_rfl))) rfl ?_)
  show AWp _ _ _ _ _ _ _
  refine aS (aR ?_)
  (refine nx (aM (gN rfl) rfl rfl rfl rfl rfl) rfl ?_)
  (refine nx (aM (gN rfl) rfl rfl rfl rfl rfl) rfl ?_)
  (refine nx (aNc (gN rfl) rfl rfl rfl rfl rfl) rfl ?_)
  (refine nx (aF (gN rfl) rfl rfl rfl rfl rfl rfl rfl rfl rfl) rfl ?_)
  (refine nx (aLf (gN rfl) rfl rfl rfl rfl rfl rfl rfl rfl rfl rfl rfl rfl rfl) rfl ?_)
  (refine nx (a_callO (gN rfl) rfl rfl rfl rfl rfl (hsk) (by repeat (first | exact trivial | refine ⟨rfl, ?_⟩)) (by first | rfl | kernel_rfl) (by first | rfl | kernel_rfl) (by first | rfl | kernel_rfl) (by first | rfl | kernel_rfl) (hnb_of (by first | rfl | kernel_rfl))) rfl ?_)
  (refine nx (aM (gN rfl) rfl rfl rfl rfl rfl) rfl ?_)
  (refine nx (aX (gN rfl) rfl rfl rfl rfl rfl rfl) rfl ?_)
  (refine nx (aX (gN rfl) rfl rfl rfl rfl rfl rfl) rfl ?_)
  (refine nx (aA (gN rfl) rfl rfl rfl rfl rfl) rfl ?_)
  (refine nx (aA (gN rfl) rfl rfl rfl rfl rfl) rfl ?_)
  show AWp _ _ _ _ _ _ _
  rcases skR_bad hbad with g | ⟨g, g2⟩
  · refine aS (aS (aR ?_))
    (refine nx (aM (gN rfl) rfl rfl rfl rfl rfl) rfl ?_)
    (refine nx (a_lss (gN rfl) rfl rfl rfl rfl rfl rfl) rfl ?_)
    (refine nx (aM (gN rfl) rfl rfl rfl rfl rfl) rfl ?_)
    (refine ⟨_, _, _, a_off (go_off rfl rfl rfl rfl (by first | rfl | assumption | (simp; done) | (simp [*]; done))) rfl rfl rfl, rfl, ?_⟩)
    (refine ⟨_, _, _, a_off (go_off rfl rfl rfl rfl (by first | rfl | assumption | (simp; done) | (simp [*]; done))) rfl rfl rfl, rfl, ?_⟩)
    (refine ⟨_, _, _, aPt (gN rfl) rfl rfl rfl rfl rfl ?hb rfl, rfl, ?_⟩; case hb => (first | rfl | assumption | (simp; done)))
    show AWp _ _ _ _ _ _ _
    refine aC rfl (fun _ => ?_) (fun h => by cases h)
    refine aS (aR ?_)
    (refine nx (aM (gN rfl) rfl rfl rfl rfl rfl) rfl ?_)
    (refine nx (aNc (gN rfl) rfl rfl rfl rfl rfl) rfl ?_)
    (refine nx (aF (gN rfl) rfl rfl rfl rfl rfl rfl rfl rfl rfl) rfl ?_)
    (refine nx (a_store_fld (gN rfl) rfl rfl rfl rfl rfl rfl rfl rfl rfl rfl rfl rfl) rfl ?_)
    show AWp _ _ _ _ _ _ _
    refine aS (aR ?_)
    (refine nx (aL (gN rfl) rfl rfl rfl rfl rfl rfl rfl rfl rfl rfl rfl rfl) rfl ?_)
    (refine nx (aSt (gN rfl) rfl rfl rfl rfl rfl rfl rfl rfl rfl rfl) rfl ?_)
    show AWp _ _ _ _ _ _ _
    exact aT ⟨.inr rfl, _, Wk.refl _, rfl, rfl, rfl, rfl, rfl, rfl, rfl, rfl, rfl, rfl, rfl, rfl, rfl, trivial⟩
  · refine aS (aS (aR ?_))
    (refine nx (aM (gN rfl) rfl rfl rfl rfl rfl) rfl ?_)
    (refine nx (a_lss (gN rfl) rfl rfl rfl rfl rfl rfl) rfl ?_)
    (refine nx (aM (gN rfl) rfl rfl rfl rfl rfl) rfl ?_)
    (refine nx (aM (gd_on rfl rfl rfl rfl (by first | rfl | assumption | (simp; done))) rfl rfl rfl rfl rfl) rfl ?_)
    (refine nx (a_gtr (gd_on rfl rfl rfl rfl (by first | rfl | assumption | (simp; done))) rfl rfl rfl rfl rfl rfl) rfl ?_)
    (refine ⟨_, _, _, aPf (gN rfl) rfl rfl rfl rfl rfl ?hb rfl, rfl, ?_⟩; case hb => (first | rfl | assumption | (simp; done)))
    show AWp _ _ _ _ _ _ _
    refine aC rfl (fun _ => ?_) (fun h => ?_)
    · refine aS (aR ?_)
      (refine nx (aM (gN rfl) rfl rfl rfl rfl rfl) rfl ?_)
      (refine nx (aNc (gN rfl) rfl rfl rfl rfl rfl) rfl ?_)
      (refine nx (aF (gN rfl) rfl rfl rfl rfl rfl rfl rfl rfl rfl) rfl ?_)
      (refine nx (a_store_fld (gN rfl) rfl rfl rfl rfl rfl rfl rfl rfl rfl rfl rfl rfl) rfl ?_)
      show AWp _ _ _ _ _ _ _
      refine aS (aR ?_)
      (refine nx (aL (gN rfl) rfl rfl rfl rfl rfl rfl rfl rfl rfl rfl rfl rfl) rfl ?_)
      (refine nx (aSt (gN rfl) rfl rfl rfl rfl rfl rfl rfl rfl rfl rfl) rfl ?_)
      show AWp _ _ _ _ _ _ _
      exact aT ⟨.inr rfl, _, Wk.refl _, rfl, rfl, rfl, rfl, rfl, rfl, rfl, rfl, rfl, rfl, rfl, rfl, rfl, trivial⟩
    · have h : decide ((skR r).2 > 32) = false := h
      rw [g2] at h; cases h
-- 
set_option maxHeartbeats 4000000 in
theorem litB1_abs (L : List By) (hL : L.length ≤ 50000) (I : Nat) (s : Rs) (hs : s.bad = false) (x : By) (hx : L[I]? = some x) (hneg : decide (x = [126]) = true) (n : Nat) (r : Option (Nat × Nat)) (hr : skI L n 1 (I + 1) none = some r) (at_ m : Nat) (hr2 : r = some (at_, m)) (hm : m ≤ 32) (y : By) (hy : L[at_]? = some y) (hy1 : y ≠ [61]) (hy2 : y ≠ [33, 61]) (t1 : Tm) (s1 : Rs) (I1 : Nat) (ht1 : AFunO Tryd.prog 29 (rdR L (I + 1) s) [.bp 350001 0 [], .val (.b true)] (.val t1.cw) (rdR L I1 s1)) :
    AFunO Tryd.prog 18 (rdR L I s) [.bp 350001 0 []] (.val (.row [.b true, t1.cw, .row [.i 0, .lst []]])) (rdR L I1 s1) := by
  subst hr2
  have hIl : I < L.length := (List.getElem?_eq_some_iff.1 hx).1
  obtain ⟨sb, sg, sv_⟩ := s
  have hs : sb = false := hs
  subst hs
  have his := is12_abs L I false sg sv_ [126] x hx
  rw [hneg] at his
  simp only [Bool.not_false, Bool.true_and] at his
  have hxe : x = [126] := of_decide_eq_true hneg
  have htk := take12_yes L I sg sv_ [126] (by rw [← hxe]; exact hx) (by omega)
  have hsk := skip12_abs L (by omega) (I + 1) false sg sv_ n 1 (I + 1) _ (by omega) hr
  simp only [skR] at hsk
  refine afunO_of Tryd.func18 Tryd.ntmps18 rfl rfl rfl rfl rfl rfl ?_
  intro w U hU
  refine aS (aR ?_)
  (refine nx (a_alloc (gN rfl) rfl rfl rfl rfl rfl rfl rfl rfl rfl rfl) (by kernel_rfl) ?_)
  show AWp _ _ _ _ _ _ _
  refine aS (aR ?_)
  (refine nx (aM (gN rfl) rfl rfl rfl rfl rfl) rfl ?_)
  (refine nx (a_callO (gN rfl) rfl rfl rfl rfl rfl (his) (by repeat (first | exact trivial | refine ⟨rfl, ?_⟩)) (by first | rfl | kernel_rfl) (by first | rfl | kernel_rfl) (by first | rfl | kernel_rfl) (by first | rfl | kernel_rfl) (hnb_of (by first | rfl | kernel_rfl))) rfl ?_)
  (refine nx (a_build (gN rfl) rfl rfl rfl rfl rfl rfl rfl rfl rfl rfl rfl) rfl ?_)
  (refine nx (a_alloc (gN rfl) rfl rfl rfl rfl rfl rfl rfl rfl rfl rfl) (by kernel_rfl) ?_)
  (refine nx (aSt (gN rfl) rfl rfl rfl rfl rfl rfl rfl rfl rfl rfl) rfl ?_)
  show AWp _ _ _ _ _ _ _
  refine aS (aS (aR ?_))
  (refine nx (aF (gN rfl) rfl rfl rfl rfl rfl rfl rfl rfl rfl) rfl ?_)
  (refine nx (aLb (gN rfl) rfl rfl rfl rfl rfl rfl rfl rfl rfl rfl rfl rfl) rfl ?_)
  show AWp _ _ _ _ _ _ _
  refine aC rfl (fun _ => ?_) (fun h => by cases h)
  refine aR ?_
  (refine nx (aM (gN rfl) rfl rfl rfl rfl rfl) rfl ?_)
  (refine nx (a_callO (gN rfl) rfl rfl rfl rfl rfl (htk) (by repeat (first | exact trivial | refine ⟨rfl, ?_⟩)) (by first | rfl | kernel_rfl) (by first | rfl | kernel_rfl) (by first | rfl | kernel_rfl) (by first | rfl | kernel_rfl) (hnb_of (by first | rfl | kernel_rfl))) rfl ?_)
  show AWp _ _ _ _ _ _ _
  refine aS (aR ?_)
  (refine nx (aM (gN rfl) rfl rfl rfl rfl rfl) rfl ?_)
  (refine nx (aM (gN rfl) rfl rfl rfl rfl rfl) rfl ?_)
  (refine nx (aNc (gN rfl) rfl rfl rfl rfl rfl) rfl ?_)
  (refine nx (aF (gN rfl) rfl rfl rfl rfl rfl rfl rfl rfl rfl) rfl ?_)
  (refine nx (aLf (gN rfl) rfl rfl rfl rfl rfl rfl rfl rfl rfl rfl rfl rfl rfl) rfl ?_)
  (refine nx (a_callO (gN rfl) rfl rfl rfl rfl rfl (hsk) (by repeat (first | exact trivial | refine ⟨rfl, ?_⟩)) (by first | rfl | kernel_rfl) (by first | rfl | kernel_rfl) (by first | rfl | kernel_rfl) (by first | rfl | kernel_rfl) (hnb_of (by first | rfl | kernel_rfl))) rfl ?_)
  (refine nx (aM (gN rfl) rfl rfl rfl rfl rfl) rfl ?_)
  (refine nx (aX (gN rfl) rfl rfl rfl rfl rfl rfl) rfl ?_)
  (refine nx (aX (gN rfl) rfl rfl rfl rfl rfl rfl) rfl ?_)
  (refine nx (aA (gN rfl) rfl rfl rfl rfl rfl) rfl ?_)
  (refine nx (aA (gN rfl) rfl rfl rfl rfl rfl) rfl ?_)
  show AWp _ _ _ _ _ _ _
  obtain ⟨g, g2⟩ : decide ((at_ : Int) < 0) = false ∧ decide ((m : Int) > 32) = false := skR_good at_ m hm
  have hatl0 : at_ < L.length := (List.getElem?_eq_some_iff.1 hy).1
  refine aS (aS (aR ?_))
  (refine nx (aM (gN rfl) rfl rfl rfl rfl rfl) rfl ?_)
  (refine nx (a_lss (gN rfl) rfl rfl rfl rfl rfl rfl) rfl ?_)
  (refine nx (aM (gN rfl) rfl rfl rfl rfl rfl) rfl ?_)
  (refine nx (aM (gd_on rfl rfl rfl rfl (by first | rfl | assumption | (simp; done))) rfl rfl rfl rfl rfl) rfl ?_)
  (refine nx (a_gtr (gd_on rfl rfl rfl rfl (by first | rfl | assumption | (simp; done))) rfl rfl rfl rfl rfl rfl) rfl ?_)
  (refine ⟨_, _, _, aPf (gN rfl) rfl rfl rfl rfl rfl ?hb rfl, rfl, ?_⟩; case hb => (first | rfl | assumption | (simp; done)))
  show AWp _ _ _ _ _ _ _
  refine aC rfl (fun h => ?_) (fun h => aK ?_)
  · have h : decide ((m : Int) > 32) = true := h
    rw [g2] at h; cases h
  show AWp _ _ _ _ _ _ _
  have hatl : at_ < L.length := (List.getElem?_eq_some_iff.1 hy).1
  have hy' := sv_at hy
  have hsv := svs_size L
  refine aS (aR ?_)
  (refine nx (aM (gN rfl) rfl rfl rfl rfl rfl) rfl ?_)
  (refine nx (aNc (gN rfl) rfl rfl rfl rfl rfl) rfl ?_)
  (refine nx (aF (gN rfl) rfl rfl rfl rfl rfl rfl rfl rfl rfl) rfl ?_)
  (refine nx (aLf (gN rfl) rfl rfl rfl rfl rfl rfl rfl rfl rfl rfl rfl rfl rfl) rfl ?_)
  (refine nx (aM (gN rfl) rfl rfl rfl rfl rfl) rfl ?_)
  (refine nx (a_index (j := at_) (gN rfl) rfl rfl rfl rfl rfl rfl rfl rfl rfl (hy') rfl (hsv)) rfl ?_)
  (refine nx (a_load_ad (gN rfl) rfl rfl rfl rfl rfl rfl rfl rfl rfl) rfl ?_)
  (refine nx (aA (gN rfl) rfl rfl rfl rfl rfl) rfl ?_)
  show AWp _ _ _ _ _ _ _
  have g3 : (!decide (y = [61])) = true := by rw [decide_eq_false hy1]; rfl
  have g4 : (!decide (y = [33, 61])) = true := by rw [decide_eq_false hy2]; rfl
  refine aS (aS (aR ?_))
  (refine nx (aM (gN rfl) rfl rfl rfl rfl rfl) rfl ?_)
  (refine nx (a_sneq (gN rfl) rfl rfl rfl rfl rfl rfl rfl) rfl ?_)
  (refine nx (aM (gN rfl) rfl rfl rfl rfl rfl) rfl ?_)
  (refine nx (aM (gd_on rfl rfl rfl rfl (by first | rfl | assumption | (simp; done))) rfl rfl rfl rfl rfl) rfl ?_)
  (refine nx (a_sneq (gd_on rfl rfl rfl rfl (by first | rfl | assumption | (simp; done))) rfl rfl rfl rfl rfl rfl rfl) rfl ?_)
  (refine ⟨_, _, _, aPt (gN rfl) rfl rfl rfl rfl rfl ?hb rfl, rfl, ?_⟩; case hb => (first | rfl | assumption | (simp; done)))
  show AWp _ _ _ _ _ _ _
  refine aC rfl (fun _ => ?_) (fun h => ?_)
  · refine aS (aR ?_)
    (refine nx (aM (gN rfl) rfl rfl rfl rfl rfl) rfl ?_)
    (refine nx (a_callO (gN rfl) rfl rfl rfl rfl rfl (ht1) (by repeat (first | exact trivial | refine ⟨rfl, ?_⟩)) (by first | rfl | kernel_rfl) (by first | rfl | kernel_rfl) (by first | rfl | kernel_rfl) (by first | rfl | kernel_rfl) (hnb_of (by first | rfl | kernel_rfl))) rfl ?_)
    (refine nx (aF (gN rfl) rfl rfl rfl rfl rfl rfl rfl rfl rfl) rfl ?_)
    (refine nx (a_store (gN rfl) rfl rfl rfl rfl rfl rfl rfl rfl rfl rfl) rfl ?_)
    show AWp _ _ _ _ _ _ _
    refine aS (aR ?_)
    (refine nx (aL (gN rfl) rfl rfl rfl rfl rfl rfl rfl rfl rfl rfl rfl rfl) rfl ?_)
    (refine nx (aSt (gN rfl) rfl rfl rfl rfl rfl rfl rfl rfl rfl rfl) rfl ?_)
    show AWp _ _ _ _ _ _ _
    exact aT ⟨.inr rfl, _, Wk.refl _, rfl, rfl, rfl, rfl, rfl, rfl, rfl, rfl, rfl, rfl, rfl, rfl, rfl, trivial⟩
  · have h : (!decide (y = [33, 61])) = false := h
    rw [g4] at h; cases h
-- 
set_option maxHeartbeats 4000000 in
theorem litC1e_abs (L : List By) (hL : L.length ≤ 50000) (I : Nat) (s : Rs) (hs : s.bad = false) (x : By) (hx : L[I]? = some x) (hneg : decide (x = [126]) = true) (n : Nat) (r : Option (Nat × Nat)) (hr : skI L n 1 (I + 1) none = some r) (at_ m : Nat) (hr2 : r = some (at_, m)) (hm : m ≤ 32) (y : By) (hy : L[at_]? = some y) (hys : y = [61]) (n2 : Nat) (r2 : Option (Nat × Nat)) (hr2' : skI L n2 1 (at_ + 1) none = some r2) (hbad : skBad r2 = true) :
    AFunO Tryd.prog 18 (rdR L I s) [.bp 350001 0 []] (.val (.row [.b true, .row [.i 0, .lst []], .row [.i 0, .lst []]])) (rdR L (I + 1) ⟨true, s.g, s.vs⟩) := by
  subst hr2
  have hIl : I < L.length := (List.getElem?_eq_some_iff.1 hx).1
  obtain ⟨sb, sg, sv_⟩ := s
  have hs : sb = false := hs
  subst hs
  have his := is12_abs L I false sg sv_ [126] x hx
  rw [hneg] at his
  simp only [Bool.not_false, Bool.true_and] at his
  have hxe : x = [126] := of_decide_eq_true hneg
  have htk := take12_yes L I sg sv_ [126] (by rw [← hxe]; exact hx) (by omega)
  have hsk := skip12_abs L (by omega) (I + 1) false sg sv_ n 1 (I + 1) _ (by omega) hr
  simp only [skR] at hsk
  refine afunO_of Tryd.func18 Tryd.ntmps18 rfl rfl rfl rfl rfl rfl ?_
  intro w U hU
  refine aS (aR ?_)
  (refine nx (a_alloc (gN rfl) rfl rfl rfl rfl rfl rfl rfl rfl rfl rfl) (by kernel_rfl) ?_)
  show AWp _ _ _ _ _ _ _
  refine aS (aR ?_)
  (refine nx (aM (gN rfl) rfl rfl rfl rfl rfl) rfl ?_)
  (refine nx (a_callO (gN rfl) rfl rfl rfl rfl rfl (his) (by repeat (first | exact trivial | refine ⟨rfl, ?_⟩)) (by first | rfl | kernel_rfl) (by first | rfl | kernel_rfl) (by first | rfl | kernel_rfl) (by first | rfl | kernel_rfl) (hnb_of (by first | rfl | kernel_rfl))) rfl ?_)
  (refine nx (a_build (gN rfl) rfl rfl rfl rfl rfl rfl rfl rfl rfl rfl rfl) rfl ?_)
  (refine nx (a_alloc (gN rfl) rfl rfl rfl rfl rfl rfl rfl rfl rfl rfl) (by kernel_rfl) ?_)
  (refine nx (aSt (gN rfl) rfl rfl rfl rfl rfl rfl rfl rfl rfl rfl) rfl ?_)
  show AWp _ _ _ _ _ _ _
  refine aS (aS (aR ?_))
  (refine nx (aF (gN rfl) rfl rfl rfl rfl rfl rfl rfl rfl rfl) rfl ?_)
  (refine nx (aLb (gN rfl) rfl rfl rfl rfl rfl rfl rfl rfl rfl rfl rfl rfl) rfl ?_)
  show AWp _ _ _ _ _ _ _
  refine aC rfl (fun _ => ?_) (fun h => by cases h)
  refine aR ?_
  (refine nx (aM (gN rfl) rfl rfl rfl rfl rfl) rfl ?_)
  (refine nx (a_callO (gN rfl) rfl rfl rfl rfl rfl (htk) (by repeat (first | exact trivial | refine ⟨rfl, ?_⟩)) (by first | rfl | kernel_rfl) (by first | rfl | kernel_rfl) (by first | rfl | kernel_rfl) (by first | rfl | kernel_rfl) (hnb_of (by first | rfl | kernel_rfl))) rfl ?_)
  show AWp _ _ _ _ _ _ _
  refine aS (aR ?_)
  (refine nx (aM (gN rfl) rfl rfl rfl rfl rfl) rfl ?_)
  (refine nx (aM (gN rfl) rfl rfl rfl rfl rfl) rfl ?_)
  (refine nx (aNc (gN rfl) rfl rfl rfl rfl rfl) rfl ?_)
  (refine nx (aF (gN rfl) rfl rfl rfl rfl rfl rfl rfl rfl rfl) rfl ?_)
  (refine nx (aLf (gN rfl) rfl rfl rfl rfl rfl rfl rfl rfl rfl rfl rfl rfl rfl) rfl ?_)
  (refine nx (a_callO (gN rfl) rfl rfl rfl rfl rfl (hsk) (by repeat (first | exact trivial | refine ⟨rfl, ?_⟩)) (by first | rfl | kernel_rfl) (by first | rfl | kernel_rfl) (by first | rfl | kernel_rfl) (by first | rfl | kernel_rfl) (hnb_of (by first | rfl | kernel_rfl))) rfl ?_)
  (refine nx (aM (gN rfl) rfl rfl rfl rfl rfl) rfl ?_)
  (refine nx (aX (gN rfl) rfl rfl rfl rfl rfl rfl) rfl ?_)
  (refine nx (aX (gN rfl) rfl rfl rfl rfl rfl rfl) rfl ?_)
  (refine nx (aA (gN rfl) rfl rfl rfl rfl rfl) rfl ?_)
  (refine nx (aA (gN rfl) rfl rfl rfl rfl rfl) rfl ?_)
  show AWp _ _ _ _ _ _ _
  obtain ⟨g, g2⟩ : decide ((at_ : Int) < 0) = false ∧ decide ((m : Int) > 32) = false := skR_good at_ m hm
  have hatl0 : at_ < L.length := (List.getElem?_eq_some_iff.1 hy).1
  refine aS (aS (aR ?_))
  (refine nx (aM (gN rfl) rfl rfl rfl rfl rfl) rfl ?_)
  (refine nx (a_lss (gN rfl) rfl rfl rfl rfl rfl rfl) rfl ?_)
  (refine nx (aM (gN rfl) rfl rfl rfl rfl rfl) rfl ?_)
  (refine nx (aM (gd_on rfl rfl rfl rfl (by first | rfl | assumption | (simp; done))) rfl rfl rfl rfl rfl) rfl ?_)
  (refine nx (a_gtr (gd_on rfl rfl rfl rfl (by first | rfl | assumption | (simp; done))) rfl rfl rfl rfl rfl rfl) rfl ?_)
  (refine ⟨_, _, _, aPf (gN rfl) rfl rfl rfl rfl rfl ?hb rfl, rfl, ?_⟩; case hb => (first | rfl | assumption | (simp; done)))
  show AWp _ _ _ _ _ _ _
  refine aC rfl (fun h => ?_) (fun h => aK ?_)
  · have h : decide ((m : Int) > 32) = true := h
    rw [g2] at h; cases h
  show AWp _ _ _ _ _ _ _
  have hatl : at_ < L.length := (List.getElem?_eq_some_iff.1 hy).1
  have hy' := sv_at hy
  have hsv := svs_size L
  refine aS (aR ?_)
  (refine nx (aM (gN rfl) rfl rfl rfl rfl rfl) rfl ?_)
  (refine nx (aNc (gN rfl) rfl rfl rfl rfl rfl) rfl ?_)
  (refine nx (aF (gN rfl) rfl rfl rfl rfl rfl rfl rfl rfl rfl) rfl ?_)
  (refine nx (aLf (gN rfl) rfl rfl rfl rfl rfl rfl rfl rfl rfl rfl rfl rfl rfl) rfl ?_)
  (refine nx (aM (gN rfl) rfl rfl rfl rfl rfl) rfl ?_)
  (refine nx (a_index (j := at_) (gN rfl) rfl rfl rfl rfl rfl rfl rfl rfl rfl (hy') rfl (hsv)) rfl ?_)
  (refine nx (a_load_ad (gN rfl) rfl rfl rfl rfl rfl rfl rfl rfl rfl) rfl ?_)
  (refine nx (aA (gN rfl) rfl rfl rfl rfl rfl) rfl ?_)
  show AWp _ _ _ _ _ _ _
  subst hys
  refine aS (aS (aR ?_))
  (refine nx (aM (gN rfl) rfl rfl rfl rfl rfl) rfl ?_)
  (refine nx (a_sneq (gN rfl) rfl rfl rfl rfl rfl rfl rfl) rfl ?_)
  (refine nx (aM (gN rfl) rfl rfl rfl rfl rfl) rfl ?_)
  (refine ⟨_, _, _, a_off (go_off rfl rfl rfl rfl (by first | rfl | assumption | (simp; done) | (simp [*]; done))) rfl rfl rfl, rfl, ?_⟩)
  (refine ⟨_, _, _, a_off (go_off rfl rfl rfl rfl (by first | rfl | assumption | (simp; done) | (simp [*]; done))) rfl rfl rfl, rfl, ?_⟩)
  (refine ⟨_, _, _, aPf (gN rfl) rfl rfl rfl rfl rfl ?hb rfl, rfl, ?_⟩; case hb => (first | rfl | assumption | (simp; done)))
  show AWp _ _ _ _ _ _ _
  refine aC rfl (fun h => by cases h) (fun h => aK ?_)
  show AWp _ _ _ _ _ _ _
  have hsk2 := skip12_abs L (by omega) (I + 1) false sg sv_ n2 1 (at_ + 1) r2 (by omega) hr2'
  refine aS (aR ?_)
  (refine nx (aM (gN rfl) rfl rfl rfl rfl rfl) rfl ?_)
  (refine nx (aM (gN rfl) rfl rfl rfl rfl rfl) rfl ?_)
  (refine nx (a_add (gN rfl) rfl rfl rfl rfl rfl rfl (by first | omega | (simp only [List.length_map, List.length_append, List.length_cons, List.length_nil] <;> omega) | (simp <;> omega))) rfl ?_)
  (refine nx (a_callO (gN rfl) rfl rfl rfl rfl rfl (hsk2) (by repeat (first | exact trivial | refine ⟨rfl, ?_⟩)) (by first | rfl | kernel_rfl) (by first | rfl | kernel_rfl) (by first | rfl | kernel_rfl) (by first | rfl | kernel_rfl) (hnb_of (by first | rfl | kernel_rfl))) rfl ?_)
  (refine nx (aM (gN rfl) rfl rfl rfl rfl rfl) rfl ?_)
  (refine nx (aX (gN rfl) rfl rfl rfl rfl rfl rfl) rfl ?_)
  (refine nx (aX (gN rfl) rfl rfl rfl rfl rfl rfl) rfl ?_)
  (refine nx (aA (gN rfl) rfl rfl rfl rfl rfl) rfl ?_)
  (refine nx (aA (gN rfl) rfl rfl rfl rfl rfl) rfl ?_)
  show AWp _ _ _ _ _ _ _
  rcases skR_bad hbad with g | ⟨g, g2⟩
  · refine aS (aS (aR ?_))
    (refine nx (aM (gN rfl) rfl rfl rfl rfl rfl) rfl ?_)
    (refine nx (a_lss (gN rfl) rfl rfl rfl rfl rfl rfl) rfl ?_)
    (refine nx (aM (gN rfl) rfl rfl rfl rfl rfl) rfl ?_)
    (refine ⟨_, _, _, a_off (go_off rfl rfl rfl rfl (by first | rfl | assumption | (simp; done) | (simp [*]; done))) rfl rfl rfl, rfl, ?_⟩)
    (refine ⟨_, _, _, a_off (go_off rfl rfl rfl rfl (by first | rfl | assumption | (simp; done) | (simp [*]; done))) rfl rfl rfl, rfl, ?_⟩)
    (refine ⟨_, _, _, aPt (gN rfl) rfl rfl rfl rfl rfl ?hb rfl, rfl, ?_⟩; case hb => (first | rfl | assumption | (simp; done)))
    show AWp _ _ _ _ _ _ _
    refine aC rfl (fun _ => ?_) (fun h => by cases h)
    refine aS (aR ?_)
    (refine nx (aM (gN rfl) rfl rfl rfl rfl rfl) rfl ?_)
    (refine nx (aNc (gN rfl) rfl rfl rfl rfl rfl) rfl ?_)
    (refine nx (aF (gN rfl) rfl rfl rfl rfl rfl rfl rfl rfl rfl) rfl ?_)
    (refine nx (a_store_fld (gN rfl) rfl rfl rfl rfl rfl rfl rfl rfl rfl rfl rfl rfl) rfl ?_)
    show AWp _ _ _ _ _ _ _
    refine aS (aR ?_)
    (refine nx (aL (gN rfl) rfl rfl rfl rfl rfl rfl rfl rfl rfl rfl rfl rfl) rfl ?_)
    (refine nx (aSt (gN rfl) rfl rfl rfl rfl rfl rfl rfl rfl rfl rfl) rfl ?_)
    show AWp _ _ _ _ _ _ _
    exact aT ⟨.inr rfl, _, Wk.refl _, rfl, rfl, rfl, rfl, rfl, rfl, rfl, rfl, rfl, rfl, rfl, rfl, rfl, trivial⟩
  · refine aS (aS (aR ?_))
    (refine nx (aM (gN rfl) rfl rfl rfl rfl rfl) rfl ?_)
    (refine nx (a_lss (gN rfl) rfl rfl rfl rfl rfl rfl) rfl ?_)
    (refine nx (aM (gN rfl) rfl rfl rfl rfl rfl) rfl ?_)
    (refine nx (aM (gd_on rfl rfl rfl rfl (by first | rfl | assumption | (simp; done))) rfl rfl rfl rfl rfl) rfl ?_)
    (refine nx (a_gtr (gd_on rfl rfl rfl rfl (by first | rfl | assumption | (simp; done))) rfl rfl rfl rfl rfl rfl) rfl ?_)
    (refine ⟨_, _, _, aPf (gN rfl) rfl rfl rfl rfl rfl ?hb rfl, rfl, ?_⟩; case hb => (first | rfl | assumption | (simp; done)))
    show AWp _ _ _ _ _ _ _
    refine aC rfl (fun _ => ?_) (fun h => ?_)
    · refine aS (aR ?_)
      (refine nx (aM (gN rfl) rfl rfl rfl rfl rfl) rfl ?_)
      (refine nx (aNc (gN rfl) rfl rfl rfl rfl rfl) rfl ?_)
      (refine nx (aF (gN rfl) rfl rfl rfl rfl rfl rfl rfl rfl rfl) rfl ?_)
      (refine nx (a_store_fld (gN rfl) rfl rfl rfl rfl rfl rfl rfl rfl rfl rfl rfl rfl) rfl ?_)
      show AWp _ _ _ _ _ _ _
      refine aS (aR ?_)
      (refine nx (aL (gN rfl) rfl rfl rfl rfl rfl rfl rfl rfl rfl rfl rfl rfl) rfl ?_)
      (refine nx (aSt (gN rfl) rfl rfl rfl rfl rfl rfl rfl rfl rfl rfl) rfl ?_)
      show AWp _ _ _ _ _ _ _
      exact aT ⟨.inr rfl, _, Wk.refl _, rfl, rfl, rfl, rfl, rfl, rfl, rfl, rfl, rfl, rfl, rfl, rfl, rfl, trivial⟩
    · have h : decide ((skR r2).2 > 32) = false := h
      rw [g2] at h; cases h
-- 
set_option maxHeartbeats 4000000 in
theorem litD1e_abs (L : List By) (hL : L.length ≤ 50000) (I : Nat) (s : Rs) (hs : s.bad = false) (x : By) (hx : L[I]? = some x) (hneg : decide (x = [126]) = true) (n : Nat) (r : Option (Nat × Nat)) (hr : skI L n 1 (I + 1) none = some r) (at_ m : Nat) (hr2 : r = some (at_, m)) (hm : m ≤ 32) (y : By) (hy : L[at_]? = some y) (hys : y = [61]) (n2 : Nat) (r2 : Option (Nat × Nat)) (hr2' : skI L n2 1 (at_ + 1) none = some r2) (e_ m2 : Nat) (hr3 : r2 = some (e_, m2)) (hm2 : m2 ≤ 32) (t1 : Tm) (s1 : Rs) (ht1 : AFunO Tryd.prog 29 (rdR L (I + 1) s) [.bp 350001 0 [], .val (.b false)] (.val t1.cw) (rdR L at_ s1)) (hb1 : s1.bad = true) :
    AFunO Tryd.prog 18 (rdR L I s) [.bp 350001 0 []] (.val (.row [.b true, t1.cw, .row [.i 0, .lst []]])) (rdR L at_ s1) := by
  subst hr2
  have hIl : I < L.length := (List.getElem?_eq_some_iff.1 hx).1
  obtain ⟨sb, sg, sv_⟩ := s
  have hs : sb = false := hs
  subst hs
  have his := is12_abs L I false sg sv_ [126] x hx
  rw [hneg] at his
  simp only [Bool.not_false, Bool.true_and] at his
  have hxe : x = [126] := of_decide_eq_true hneg
  have htk := take12_yes L I sg sv_ [126] (by rw [← hxe]; exact hx) (by omega)
  have hsk := skip12_abs L (by omega) (I + 1) false sg sv_ n 1 (I + 1) _ (by omega) hr
  simp only [skR] at hsk
  refine afunO_of Tryd.func18 Tryd.ntmps18 rfl rfl rfl rfl rfl rfl ?_
  intro w U hU
  refine aS (aR ?_)
  (refine nx (a_alloc (gN rfl) rfl rfl rfl rfl rfl rfl rfl rfl rfl rfl) (by kernel_rfl) ?_)
  show AWp _ _ _ _ _ _ _
  refine aS (aR ?_)
  (refine nx (aM (gN rfl) rfl rfl rfl rfl rfl) rfl ?_)
  (refine nx (a_callO (gN rfl) rfl rfl rfl rfl rfl (his) (by repeat (first | exact trivial | refine ⟨rfl, ?_⟩)) (by first | rfl | kernel_rfl) (by first | rfl | kernel_rfl) (by first | rfl | kernel_rfl) (by first | rfl | kernel_rfl) (hnb_of (by first | rfl | kernel_rfl))) rfl ?_)
  (refine nx (a_build (gN rfl) rfl rfl rfl rfl rfl rfl rfl rfl rfl rfl rfl) rfl ?_)
  (refine nx (a_alloc (gN rfl) rfl rfl rfl rfl rfl rfl rfl rfl rfl rfl) (by kernel_rfl) ?_)
  (refine nx (aSt (gN rfl) rfl rfl rfl rfl rfl rfl rfl rfl rfl rfl) rfl ?_)
  show AWp _ _ _ _ _ _ _
  refine aS (aS (aR ?_))
  (refine nx (aF (gN rfl) rfl rfl rfl rfl rfl rfl rfl rfl rfl) rfl ?_)
  (refine nx (aLb (gN rfl) rfl rfl rfl rfl rfl rfl rfl rfl rfl rfl rfl rfl) rfl ?_)
  show AWp _ _ _ _ _ _ _
  refine aC rfl (fun _ => ?_) (fun h => by cases h)
  refine aR ?_
  (refine nx (aM (gN rfl) rfl rfl rfl rfl rfl) rfl ?_)
  (refine nx (a_callO (gN rfl) rfl rfl rfl rfl rfl (htk) (by repeat (first | exact trivial | refine ⟨rfl, ?_⟩)) (by first | rfl | kernel_rfl) (by first | rfl | kernel_rfl) (by first | rfl | kernel_rfl) (by first | rfl | kernel_rfl) (hnb_of (by first | rfl | kernel_rfl))) rfl ?_)
  show AWp _ _ _ _ _ _ _
  refine aS (aR ?_)
  (refine nx (aM (gN rfl) rfl rfl rfl rfl rfl) rfl ?_)
  (refine nx (aM (gN rfl) rfl rfl rfl rfl rfl) rfl ?_)
  (refine nx (aNc (gN rfl) rfl rfl rfl rfl rfl) rfl ?_)
  (refine nx (aF (gN rfl) rfl rfl rfl rfl rfl rfl rfl rfl rfl) rfl ?_)
  (refine nx (aLf (gN rfl) rfl rfl rfl rfl rfl rfl rfl rfl rfl rfl rfl rfl rfl) rfl ?_)
  (refine nx (a_callO (gN rfl) rfl rfl rfl rfl rfl (hsk) (by repeat (first | exact trivial | refine ⟨rfl, ?_⟩)) (by first | rfl | kernel_rfl) (by first | rfl | kernel_rfl) (by first | rfl | kernel_rfl) (by first | rfl | kernel_rfl) (hnb_of (by first | rfl | kernel_rfl))) rfl ?_)
  (refine nx (aM (gN rfl) rfl rfl rfl rfl rfl) rfl ?_)
  (refine nx (aX (gN rfl) rfl rfl rfl rfl rfl rfl) rfl ?_)
  (refine nx (aX (gN rfl) rfl rfl rfl rfl rfl rfl) rfl ?_)
  (refine nx (aA (gN rfl) rfl rfl rfl rfl rfl) rfl ?_)
  (refine nx (aA (gN rfl) rfl rfl rfl rfl rfl) rfl ?_)
  show AWp _ _ _ _ _ _ _
  obtain ⟨g, g2⟩ : decide ((at_ : Int) < 0) = false ∧ decide ((m : Int) > 32) = false := skR_good at_ m hm
  have hatl0 : at_ < L.length := (List.getElem?_eq_some_iff.1 hy).1
  refine aS (aS (aR ?_))
  (refine nx (aM (gN rfl) rfl rfl rfl rfl rfl) rfl ?_)
  (refine nx (a_lss (gN rfl) rfl rfl rfl rfl rfl rfl) rfl ?_)
  (refine nx (aM (gN rfl) rfl rfl rfl rfl rfl) rfl ?_)
  (refine nx (aM (gd_on rfl rfl rfl rfl (by first | rfl | assumption | (simp; done))) rfl rfl rfl rfl rfl) rfl ?_)
  (refine nx (a_gtr (gd_on rfl rfl rfl rfl (by first | rfl | assumption | (simp; done))) rfl rfl rfl rfl rfl rfl) rfl ?_)
  (refine ⟨_, _, _, aPf (gN rfl) rfl rfl rfl rfl rfl ?hb rfl, rfl, ?_⟩; case hb => (first | rfl | assumption | (simp; done)))
  show AWp _ _ _ _ _ _ _
  refine aC rfl (fun h => ?_) (fun h => aK ?_)
  · have h : decide ((m : Int) > 32) = true := h
    rw [g2] at h; cases h
  show AWp _ _ _ _ _ _ _
  have hatl : at_ < L.length := (List.getElem?_eq_some_iff.1 hy).1
  have hy' := sv_at hy
  have hsv := svs_size L
  refine aS (aR ?_)
  (refine nx (aM (gN rfl) rfl rfl rfl rfl rfl) rfl ?_)
  (refine nx (aNc (gN rfl) rfl rfl rfl rfl rfl) rfl ?_)
  (refine nx (aF (gN rfl) rfl rfl rfl rfl rfl rfl rfl rfl rfl) rfl ?_)
  (refine nx (aLf (gN rfl) rfl rfl rfl rfl rfl rfl rfl rfl rfl rfl rfl rfl rfl) rfl ?_)
  (refine nx (aM (gN rfl) rfl rfl rfl rfl rfl) rfl ?_)
  (refine nx (a_index (j := at_) (gN rfl) rfl rfl rfl rfl rfl rfl rfl rfl rfl (hy') rfl (hsv)) rfl ?_)
  (refine nx (a_load_ad (gN rfl) rfl rfl rfl rfl rfl rfl rfl rfl rfl) rfl ?_)
  (refine nx (aA (gN rfl) rfl rfl rfl rfl rfl) rfl ?_)
  show AWp _ _ _ _ _ _ _
  subst hys
  refine aS (aS (aR ?_))
  (refine nx (aM (gN rfl) rfl rfl rfl rfl rfl) rfl ?_)
  (refine nx (a_sneq (gN rfl) rfl rfl rfl rfl rfl rfl rfl) rfl ?_)
  (refine nx (aM (gN rfl) rfl rfl rfl rfl rfl) rfl ?_)
  (refine ⟨_, _, _, a_off (go_off rfl rfl rfl rfl (by first | rfl | assumption | (simp; done) | (simp [*]; done))) rfl rfl rfl, rfl, ?_⟩)
  (refine ⟨_, _, _, a_off (go_off rfl rfl rfl rfl (by first | rfl | assumption | (simp; done) | (simp [*]; done))) rfl rfl rfl, rfl, ?_⟩)
  (refine ⟨_, _, _, aPf (gN rfl) rfl rfl rfl rfl rfl ?hb rfl, rfl, ?_⟩; case hb => (first | rfl | assumption | (simp; done)))
  show AWp _ _ _ _ _ _ _
  refine aC rfl (fun h => by cases h) (fun h => aK ?_)
  show AWp _ _ _ _ _ _ _
  subst hr3
  have hsk2 := skip12_abs L (by omega) (I + 1) false sg sv_ n2 1 (at_ + 1) _ (by omega) hr2'
  simp only [skR] at hsk2
  refine aS (aR ?_)
  (refine nx (aM (gN rfl) rfl rfl rfl rfl rfl) rfl ?_)
  (refine nx (aM (gN rfl) rfl rfl rfl rfl rfl) rfl ?_)
  (refine nx (a_add (gN rfl) rfl rfl rfl rfl rfl rfl (by first | omega | (simp only [List.length_map, List.length_append, List.length_cons, List.length_nil] <;> omega) | (simp <;> omega))) rfl ?_)
  (refine nx (a_callO (gN rfl) rfl rfl rfl rfl rfl (hsk2) (by repeat (first | exact trivial | refine ⟨rfl, ?_⟩)) (by first | rfl | kernel_rfl) (by first | rfl | kernel_rfl) (by first | rfl | kernel_rfl) (by first | rfl | kernel_rfl) (hnb_of (by first | rfl | kernel_rfl))) rfl ?_)
  (refine nx (aM (gN rfl) rfl rfl rfl rfl rfl) rfl ?_)
  (refine nx (aX (gN rfl) rfl rfl rfl rfl rfl rfl) rfl ?_)
  (refine nx (aX (gN rfl) rfl rfl rfl rfl rfl rfl) rfl ?_)
  (refine nx (aA (gN rfl) rfl rfl rfl rfl rfl) rfl ?_)
  (refine nx (aA (gN rfl) rfl rfl rfl rfl rfl) rfl ?_)
  show AWp _ _ _ _ _ _ _
  obtain ⟨g5, g6⟩ : decide ((e_ : Int) < 0) = false ∧ decide ((m2 : Int) > 32) = false := skR_good e_ m2 hm2
  refine aS (aS (aR ?_))
  (refine nx (aM (gN rfl) rfl rfl rfl rfl rfl) rfl ?_)
  (refine nx (a_lss (gN rfl) rfl rfl rfl rfl rfl rfl) rfl ?_)
  (refine nx (aM (gN rfl) rfl rfl rfl rfl rfl) rfl ?_)
  (refine nx (aM (gd_on rfl rfl rfl rfl (by first | rfl | assumption | (simp; done))) rfl rfl rfl rfl rfl) rfl ?_)
  (refine nx (a_gtr (gd_on rfl rfl rfl rfl (by first | rfl | assumption | (simp; done))) rfl rfl rfl rfl rfl rfl) rfl ?_)
  (refine ⟨_, _, _, aPf (gN rfl) rfl rfl rfl rfl rfl ?hb rfl, rfl, ?_⟩; case hb => (first | rfl | assumption | (simp; done)))
  show AWp _ _ _ _ _ _ _
  refine aC rfl (fun h => ?_) (fun h => aK ?_)
  · have h : decide ((m2 : Int) > 32) = true := h
    rw [g6] at h; cases h
  show AWp _ _ _ _ _ _ _
  obtain ⟨b1, g1_, v1_⟩ := s1
  have hb1 : b1 = true := hb1
  subst hb1
  refine aS (aR ?_)
  (refine nx (aM (gN rfl) rfl rfl rfl rfl rfl) rfl ?_)
  (refine nx (a_callO (gN rfl) rfl rfl rfl rfl rfl (ht1) (by repeat (first | exact trivial | refine ⟨rfl, ?_⟩)) (by first | rfl | kernel_rfl) (by first | rfl | kernel_rfl) (by first | rfl | kernel_rfl) (by first | rfl | kernel_rfl) (hnb_of (by first | rfl | kernel_rfl))) rfl ?_)
  (refine nx (aF (gN rfl) rfl rfl rfl rfl rfl rfl rfl rfl rfl) rfl ?_)
  (refine nx (a_store (gN rfl) rfl rfl rfl rfl rfl rfl rfl rfl rfl rfl) rfl ?_)
  show AWp _ _ _ _ _ _ _
  have htk2 := take12_no L at_ true g1_ v1_ [61] [61] hy rfl
  refine aS (aR ?_)
  (refine nx (aM (gN rfl) rfl rfl rfl rfl rfl) rfl ?_)
  (refine nx (aM (gN rfl) rfl rfl rfl rfl rfl) rfl ?_)
  (refine nx (a_callO (gN rfl) rfl rfl rfl rfl rfl (htk2) (by repeat (first | exact trivial | refine ⟨rfl, ?_⟩)) (by first | rfl | kernel_rfl) (by first | rfl | kernel_rfl) (by first | rfl | kernel_rfl) (by first | rfl | kernel_rfl) (hnb_of (by first | rfl | kernel_rfl))) rfl ?_)
  show AWp _ _ _ _ _ _ _
  refine aS (aS (aR ?_))
  (refine nx (aM (gN rfl) rfl rfl rfl rfl rfl) rfl ?_)
  (refine nx (aNc (gN rfl) rfl rfl rfl rfl rfl) rfl ?_)
  (refine nx (aF (gN rfl) rfl rfl rfl rfl rfl rfl rfl rfl rfl) rfl ?_)
  (refine nx (aLf (gN rfl) rfl rfl rfl rfl rfl rfl rfl rfl rfl rfl rfl rfl rfl) rfl ?_)
  show AWp _ _ _ _ _ _ _
  refine aC rfl (fun _ => ?_) (fun h => by cases h)
  refine aS (aR ?_)
  (refine nx (aL (gN rfl) rfl rfl rfl rfl rfl rfl rfl rfl rfl rfl rfl rfl) rfl ?_)
  (refine nx (aSt (gN rfl) rfl rfl rfl rfl rfl rfl rfl rfl rfl rfl) rfl ?_)
  show AWp _ _ _ _ _ _ _
  exact aT ⟨.inr rfl, _, Wk.refl _, rfl, rfl, rfl, rfl, rfl, rfl, rfl, rfl, rfl, rfl, rfl, rfl, rfl, trivial⟩
-- 
set_option maxHeartbeats 4000000 in
theorem litE1e_abs (L : List By) (hL : L.length ≤ 50000) (I : Nat) (s : Rs) (hs : s.bad = false) (x : By) (hx : L[I]? = some x) (hneg : decide (x = [126]) = true) (n : Nat) (r : Option (Nat × Nat)) (hr : skI L n 1 (I + 1) none = some r) (at_ m : Nat) (hr2 : r = some (at_, m)) (hm : m ≤ 32) (y : By) (hy : L[at_]? = some y) (hys : y = [61]) (n2 : Nat) (r2 : Option (Nat × Nat)) (hr2' : skI L n2 1 (at_ + 1) none = some r2) (e_ m2 : Nat) (hr3 : r2 = some (e_, m2)) (hm2 : m2 ≤ 32) (t1 : Tm) (s1 : Rs) (ht1 : AFunO Tryd.prog 29 (rdR L (I + 1) s) [.bp 350001 0 [], .val (.b false)] (.val t1.cw) (rdR L at_ s1)) (hb1 : s1.bad = false) (t2 : Tm) (s2 : Rs) (I2 : Nat) (ht2 : AFunO Tryd.prog 29 (rdR L (at_ + 1) s1) [.bp 350001 0 [], .val (.b false)] (.val t2.cw) (rdR L I2 s2)) :
    AFunO Tryd.prog 18 (rdR L I s) [.bp 350001 0 []] (.val (.row [.b true, t1.cw, t2.cw])) (rdR L I2 s2) := by
  subst hr2
  have hIl : I < L.length := (List.getElem?_eq_some_iff.1 hx).1
  obtain ⟨sb, sg, sv_⟩ := s
  have hs : sb = false := hs
  subst hs
  have his := is12_abs L I false sg sv_ [126] x hx
  rw [hneg] at his
  simp only [Bool.not_false, Bool.true_and] at his
  have hxe : x = [126] := of_decide_eq_true hneg
  have htk := take12_yes L I sg sv_ [126] (by rw [← hxe]; exact hx) (by omega)
  have hsk := skip12_abs L (by omega) (I + 1) false sg sv_ n 1 (I + 1) _ (by omega) hr
  simp only [skR] at hsk
  refine afunO_of Tryd.func18 Tryd.ntmps18 rfl rfl rfl rfl rfl rfl ?_
  intro w U hU
  refine aS (aR ?_)
  (refine nx (a_alloc (gN rfl) rfl rfl rfl rfl rfl rfl rfl rfl rfl rfl) (by kernel_rfl) ?_)
  show AWp _ _ _ _ _ _ _
  refine aS (aR ?_)
  (refine nx (aM (gN rfl) rfl rfl rfl rfl rfl) rfl ?_)
  (refine nx (a_callO (gN rfl) rfl rfl rfl rfl rfl (his) (by repeat (first | exact trivial | refine ⟨rfl, ?_⟩)) (by first | rfl | kernel_rfl) (by first | rfl | kernel_rfl) (by first | rfl | kernel_rfl) (by first | rfl | kernel_rfl) (hnb_of (by first | rfl | kernel_rfl))) rfl ?_)
  (refine nx (a_build (gN rfl) rfl rfl rfl rfl rfl rfl rfl rfl rfl rfl rfl) rfl ?_)
  (refine nx (a_alloc (gN rfl) rfl rfl rfl rfl rfl rfl rfl rfl rfl rfl) (by kernel_rfl) ?_)
  (refine nx (aSt (gN rfl) rfl rfl rfl rfl rfl rfl rfl rfl rfl rfl) rfl ?_)
  show AWp _ _ _ _ _ _ _
  refine aS (aS (aR ?_))
  (refine nx (aF (gN rfl) rfl rfl rfl rfl rfl rfl rfl rfl rfl) rfl ?_)
  (refine nx (aLb (gN rfl) rfl rfl rfl rfl rfl rfl rfl rfl rfl rfl rfl rfl) rfl ?_)
  show AWp _ _ _ _ _ _ _
  refine aC rfl (fun _ => ?_) (fun h => by cases h)
  refine aR ?_
  (refine nx (aM (gN rfl) rfl rfl rfl rfl rfl) rfl ?_)
  (refine nx (a_callO (gN rfl) rfl rfl rfl rfl rfl (htk) (by repeat (first | exact trivial | refine ⟨rfl, ?_⟩)) (by first | rfl | kernel_rfl) (by first | rfl | kernel_rfl) (by first | rfl | kernel_rfl) (by first | rfl | kernel_rfl) (hnb_of (by first | rfl | kernel_rfl))) rfl ?_)
  show AWp _ _ _ _ _ _ _
  refine aS (aR ?_)
  (refine nx (aM (gN rfl) rfl rfl rfl rfl rfl) rfl ?_)
  (refine nx (aM (gN rfl) rfl rfl rfl rfl rfl) rfl ?_)
  (refine nx (aNc (gN rfl) rfl rfl rfl rfl rfl) rfl ?_)
  (refine nx (aF (gN rfl) rfl rfl rfl rfl rfl rfl rfl rfl rfl) rfl ?_)
  (refine nx (aLf (gN rfl) rfl rfl rfl rfl rfl rfl rfl rfl rfl rfl rfl rfl rfl) rfl ?_)
  (refine nx (a_callO (gN rfl) rfl rfl rfl rfl rfl (hsk) (by repeat (first | exact trivial | refine ⟨rfl, ?_⟩)) (by first | rfl | kernel_rfl) (by first | rfl | kernel_rfl) (by first | rfl | kernel_rfl) (by first | rfl | kernel_rfl) (hnb_of (by first | rfl | kernel_rfl))) rfl ?_)
  (refine nx (aM (gN rfl) rfl rfl rfl rfl rfl) rfl ?_)
  (refine nx (aX (gN rfl) rfl rfl rfl rfl rfl rfl) rfl ?_)
  (refine nx (aX (gN rfl) rfl rfl rfl rfl rfl rfl) rfl ?_)
  (refine nx (aA (gN rfl) rfl rfl rfl rfl rfl) rfl ?_)
  (refine nx (aA (gN rfl) rfl rfl rfl rfl rfl) rfl ?_)
  show AWp _ _ _ _ _ _ _
  obtain ⟨g, g2⟩ : decide ((at_ : Int) < 0) = false ∧ decide ((m : Int) > 32) = false := skR_good at_ m hm
  have hatl0 : at_ < L.length := (List.getElem?_eq_some_iff.1 hy).1
  refine aS (aS (aR ?_))
  (refine nx (aM (gN rfl) rfl rfl rfl rfl rfl) rfl ?_)
  (refine nx (a_lss (gN rfl) rfl rfl rfl rfl rfl rfl) rfl ?_)
  (refine nx (aM (gN rfl) rfl rfl rfl rfl rfl) rfl ?_)
  (refine nx (aM (gd_on rfl rfl rfl rfl (by first | rfl | assumption | (simp; done))) rfl rfl rfl rfl rfl) rfl ?_)
  (refine nx (a_gtr (gd_on rfl rfl rfl rfl (by first | rfl | assumption | (simp; done))) rfl rfl rfl rfl rfl rfl) rfl ?_)
  (refine ⟨_, _, _, aPf (gN rfl) rfl rfl rfl rfl rfl ?hb rfl, rfl, ?_⟩; case hb => (first | rfl | assumption | (simp; done)))
  show AWp _ _ _ _ _ _ _
  refine aC rfl (fun h => ?_) (fun h => aK ?_)
  · have h : decide ((m : Int) > 32) = true := h
    rw [g2] at h; cases h
  show AWp _ _ _ _ _ _ _
  have hatl : at_ < L.length := (List.getElem?_eq_some_iff.1 hy).1
  have hy' := sv_at hy
  have hsv := svs_size L
  refine aS (aR ?_)
  (refine nx (aM (gN rfl) rfl rfl rfl rfl rfl) rfl ?_)
  (refine nx (aNc (gN rfl) rfl rfl rfl rfl rfl) rfl ?_)
  (refine nx (aF (gN rfl) rfl rfl rfl rfl rfl rfl rfl rfl rfl) rfl ?_)
  (refine nx (aLf (gN rfl) rfl rfl rfl rfl rfl rfl rfl rfl rfl rfl rfl rfl rfl) rfl ?_)
  (refine nx (aM (gN rfl) rfl rfl rfl rfl rfl) rfl ?_)
  (refine nx (a_index (j := at_) (gN rfl) rfl rfl rfl rfl rfl rfl rfl rfl rfl (hy') rfl (hsv)) rfl ?_)
  (refine nx (a_load_ad (gN rfl) rfl rfl rfl rfl rfl rfl rfl rfl rfl) rfl ?_)
  (refine nx (aA (gN rfl) rfl rfl rfl rfl rfl) rfl ?_)
  show AWp _ _ _ _ _ _ _
  subst hys
  refine aS (aS (aR ?_))
  (refine nx (aM (gN rfl) rfl rfl rfl rfl rfl) rfl ?_)
  (refine nx (a_sneq (gN rfl) rfl rfl rfl rfl rfl rfl rfl) rfl ?_)
  (refine nx (aM (gN rfl) rfl rfl rfl rfl rfl) rfl ?_)
  (refine ⟨_, _, _, a_off (go_off rfl rfl rfl rfl (by first | rfl | assumption | (simp; done) | (simp [*]; done))) rfl rfl rfl, rfl, ?_⟩)
  (refine ⟨_, _, _, a_off (go_off rfl rfl rfl rfl (by first | rfl | assumption | (simp; done) | (simp [*]; done))) rfl rfl rfl, rfl, ?_⟩)
  (refine ⟨_, _, _, aPf (gN rfl) rfl rfl rfl rfl rfl ?hb rfl, rfl, ?_⟩; case hb => (first | rfl | assumption | (simp; done)))
  show AWp _ _ _ _ _ _ _
  refine aC rfl (fun h => by cases h) (fun h => aK ?_)
  show AWp _ _ _ _ _ _ _
  subst hr3
  have hsk2 := skip12_abs L (by omega) (I + 1) false sg sv_ n2 1 (at_ + 1) _ (by omega) hr2'
  simp only [skR] at hsk2
  refine aS (aR ?_)
  (refine nx (aM (gN rfl) rfl rfl rfl rfl rfl) rfl ?_)
  (refine nx (aM (gN rfl) rfl rfl rfl rfl rfl) rfl ?_)
  (refine nx (a_add (gN rfl) rfl rfl rfl rfl rfl rfl (by first | omega | (simp only [List.length_map, List.length_append, List.length_cons, List.length_nil] <;> omega) | (simp <;> omega))) rfl ?_)
  (refine nx (a_callO (gN rfl) rfl rfl rfl rfl rfl (hsk2) (by repeat (first | exact trivial | refine ⟨rfl, ?_⟩)) (by first | rfl | kernel_rfl) (by first | rfl | kernel_rfl) (by first | rfl | kernel_rfl) (by first | rfl | kernel_rfl) (hnb_of (by first | rfl | kernel_rfl))) rfl ?_)
  (refine nx (aM (gN rfl) rfl rfl rfl rfl rfl) rfl ?_)
  (refine nx (aX (gN rfl) rfl rfl rfl rfl rfl rfl) rfl ?_)
  (refine nx (aX (gN rfl) rfl rfl rfl rfl rfl rfl) rfl ?_)
  (refine nx (aA (gN rfl) rfl rfl rfl rfl rfl) rfl ?_)
  (refine nx (aA (gN rfl) rfl rfl rfl rfl rfl) rfl ?_)
  show AWp _ _ _ _ _ _ _
  obtain ⟨g5, g6⟩ : decide ((e_ : Int) < 0) = false ∧ decide ((m2 : Int) > 32) = false := skR_good e_ m2 hm2
  refine aS (aS (aR ?_))
  (refine nx (aM (gN rfl) rfl rfl rfl rfl rfl) rfl ?_)
  (refine nx (a_lss (gN rfl) rfl rfl rfl rfl rfl rfl) rfl ?_)
  (refine nx (aM (gN rfl) rfl rfl rfl rfl rfl) rfl ?_)
  (refine nx (aM (gd_on rfl rfl rfl rfl (by first | rfl | assumption | (simp; done))) rfl rfl rfl rfl rfl) rfl ?_)
  (refine nx (a_gtr (gd_on rfl rfl rfl rfl (by first | rfl | assumption | (simp; done))) rfl rfl rfl rfl rfl rfl) rfl ?_)
  (refine ⟨_, _, _, aPf (gN rfl) rfl rfl rfl rfl rfl ?hb rfl, rfl, ?_⟩; case hb => (first | rfl | assumption | (simp; done)))
  show AWp _ _ _ _ _ _ _
  refine aC rfl (fun h => ?_) (fun h => aK ?_)
  · have h : decide ((m2 : Int) > 32) = true := h
    rw [g6] at h; cases h
  show AWp _ _ _ _ _ _ _
  obtain ⟨b1, g1_, v1_⟩ := s1
  have hb1 : b1 = false := hb1
  subst hb1
  refine aS (aR ?_)
  (refine nx (aM (gN rfl) rfl rfl rfl rfl rfl) rfl ?_)
  (refine nx (a_callO (gN rfl) rfl rfl rfl rfl rfl (ht1) (by repeat (first | exact trivial | refine ⟨rfl, ?_⟩)) (by first | rfl | kernel_rfl) (by first | rfl | kernel_rfl) (by first | rfl | kernel_rfl) (by first | rfl | kernel_rfl) (hnb_of (by first | rfl | kernel_rfl))) rfl ?_)
  (refine nx (aF (gN rfl) rfl rfl rfl rfl rfl rfl rfl rfl rfl) rfl ?_)
  (refine nx (a_store (gN rfl) rfl rfl rfl rfl rfl rfl rfl rfl rfl rfl) rfl ?_)
  show AWp _ _ _ _ _ _ _
  have htk2 := take12_yes L at_ g1_ v1_ [61] hy (by omega)
  refine aS (aR ?_)
  (refine nx (aM (gN rfl) rfl rfl rfl rfl rfl) rfl ?_)
  (refine nx (aM (gN rfl) rfl rfl rfl rfl rfl) rfl ?_)
  (refine nx (a_callO (gN rfl) rfl rfl rfl rfl rfl (htk2) (by repeat (first | exact trivial | refine ⟨rfl, ?_⟩)) (by first | rfl | kernel_rfl) (by first | rfl | kernel_rfl) (by first | rfl | kernel_rfl) (by first | rfl | kernel_rfl) (hnb_of (by first | rfl | kernel_rfl))) rfl ?_)
  show AWp _ _ _ _ _ _ _
  refine aS (aS (aR ?_))
  (refine nx (aM (gN rfl) rfl rfl rfl rfl rfl) rfl ?_)
  (refine nx (aNc (gN rfl) rfl rfl rfl rfl rfl) rfl ?_)
  (refine nx (aF (gN rfl) rfl rfl rfl rfl rfl rfl rfl rfl rfl) rfl ?_)
  (refine nx (aLf (gN rfl) rfl rfl rfl rfl rfl rfl rfl rfl rfl rfl rfl rfl rfl) rfl ?_)
  show AWp _ _ _ _ _ _ _
  refine aC rfl (fun h => by cases h) (fun _ => aK ?_)
  show AWp _ _ _ _ _ _ _
  refine aS (aR ?_)
  (refine nx (aM (gN rfl) rfl rfl rfl rfl rfl) rfl ?_)
  (refine nx (a_callO (gN rfl) rfl rfl rfl rfl rfl (ht2) (by repeat (first | exact trivial | refine ⟨rfl, ?_⟩)) (by first | rfl | kernel_rfl) (by first | rfl | kernel_rfl) (by first | rfl | kernel_rfl) (by first | rfl | kernel_rfl) (hnb_of (by first | rfl | kernel_rfl))) rfl ?_)
  (refine nx (aF (gN rfl) rfl rfl rfl rfl rfl rfl rfl rfl rfl) rfl ?_)
  (refine nx (a_store (gN rfl) rfl rfl rfl rfl rfl rfl rfl rfl rfl rfl) rfl ?_)
  show AWp _ _ _ _ _ _ _
  refine aS (aS (aR ?_))
  (refine nx (aM (gN rfl) rfl rfl rfl rfl rfl) rfl ?_)
  (refine nx (a_seql (gN rfl) rfl rfl rfl rfl rfl rfl rfl) rfl ?_)
  show AWp _ _ _ _ _ _ _
  refine aC rfl (fun h => by cases h) (fun _ => aK ?_)
  show AWp _ _ _ _ _ _ _
  refine aS (aR ?_)
  (refine nx (aL (gN rfl) rfl rfl rfl rfl rfl rfl rfl rfl rfl rfl rfl rfl) rfl ?_)
  (refine nx (aSt (gN rfl) rfl rfl rfl rfl rfl rfl rfl rfl rfl rfl) rfl ?_)
  show AWp _ _ _ _ _ _ _
  exact aT ⟨.inr rfl, _, Wk.refl _, rfl, rfl, rfl, rfl, rfl, rfl, rfl, rfl, rfl, rfl, rfl, rfl, rfl, trivial⟩
-- 
set_option maxHeartbeats 4000000 in
theorem litC1n_abs (L : List By) (hL : L.length ≤ 50000) (I : Nat) (s : Rs) (hs : s.bad = false) (x : By) (hx : L[I]? = some x) (hneg : decide (x = [126]) = true) (n : Nat) (r : Option (Nat × Nat)) (hr : skI L n 1 (I + 1) none = some r) (at_ m : Nat) (hr2 : r = some (at_, m)) (hm : m ≤ 32) (y : By) (hy : L[at_]? = some y) (hys : y = [33, 61]) (n2 : Nat) (r2 : Option (Nat × Nat)) (hr2' : skI L n2 1 (at_ + 1) none = some r2) (hbad : skBad r2 = true) :
    AFunO Tryd.prog 18 (rdR L I s) [.bp 350001 0 []] (.val (.row [.b true, .row [.i 0, .lst []], .row [.i 0, .lst []]])) (rdR L (I + 1) ⟨true, s.g, s.vs⟩) := by
  subst hr2
  have hIl : I < L.length := (List.getElem?_eq_some_iff.1 hx).1
  obtain ⟨sb, sg, sv_⟩ := s
  have hs : sb = false := hs
  subst hs
  have his := is12_abs L I false sg sv_ [126] x hx
  rw [hneg] at his
  simp only [Bool.not_false, Bool.true_and] at his
  have hxe : x = [126] := of_decide_eq_true hneg
  have htk := take12_yes L I sg sv_ [126] (by rw [← hxe]; exact hx) (by omega)
  have hsk := skip12_abs L (by omega) (I + 1) false sg sv_ n 1 (I + 1) _ (by omega) hr
  simp only [skR] at hsk
  refine afunO_of Tryd.func18 Tryd.ntmps18 rfl rfl rfl rfl rfl rfl ?_
  intro w U hU
  refine aS (aR ?_)
  (refine nx (a_alloc (gN rfl) rfl rfl rfl rfl rfl rfl rfl rfl rfl rfl) (by kernel_rfl) ?_)
  show AWp _ _ _ _ _ _ _
  refine aS (aR ?_)
  (refine nx (aM (gN rfl) rfl rfl rfl rfl rfl) rfl ?_)
  (refine nx (a_callO (gN rfl) rfl rfl rfl rfl rfl (his) (by repeat (first | exact trivial | refine ⟨rfl, ?_⟩)) (by first | rfl | kernel_rfl) (by first | rfl | kernel_rfl) (by first | rfl | kernel_rfl) (by first | rfl | kernel_rfl) (hnb_of (by first | rfl | kernel_rfl))) rfl ?_)
  (refine nx (a_build (gN rfl) rfl rfl rfl rfl rfl rfl rfl rfl rfl rfl rfl) rfl ?_)
  (refine nx (a_alloc (gN rfl) rfl rfl rfl rfl rfl rfl rfl rfl rfl rfl) (by kernel_rfl) ?_)
  (refine nx (aSt (gN rfl) rfl rfl rfl rfl rfl rfl rfl rfl rfl rfl) rfl ?_)
  show AWp _ _ _ _ _ _ _
  refine aS (aS (aR ?_))
  (refine nx (aF (gN rfl) rfl rfl rfl rfl rfl rfl rfl rfl rfl) rfl ?_)
  (refine nx (aLb (gN rfl) rfl rfl rfl rfl rfl rfl rfl rfl rfl rfl rfl rfl) rfl ?_)
  show AWp _ _ _ _ _ _ _
  refine aC rfl (fun _ => ?_) (fun h => by cases h)
  refine aR ?_
  (refine nx (aM (gN rfl) rfl rfl rfl rfl rfl) rfl ?_)
  (refine nx (a_callO (gN rfl) rfl rfl rfl rfl rfl (htk) (by repeat (first | exact trivial | refine ⟨rfl, ?_⟩)) (by first | rfl | kernel_rfl) (by first | rfl | kernel_rfl) (by first | rfl | kernel_rfl) (by first | rfl | kernel_rfl) (hnb_of (by first | rfl | kernel_rfl))) rfl ?_)
  show AWp _ _ _ _ _ _ _
  refine aS (aR ?_)
  (refine nx (aM (gN rfl) rfl rfl rfl rfl rfl) rfl ?_)
  (refine nx (aM (gN rfl) rfl rfl rfl rfl rfl) rfl ?_)
  (refine nx (aNc (gN rfl) rfl rfl rfl rfl rfl) rfl ?_)
  (refine nx (aF (gN rfl) rfl rfl rfl rfl rfl rfl rfl rfl rfl) rfl ?_)
  (refine nx (aLf (gN rfl) rfl rfl rfl rfl rfl rfl rfl rfl rfl rfl rfl rfl rfl) rfl ?_)
  (refine nx (a_callO (gN rfl) rfl rfl rfl rfl rfl (hsk) (by repeat (first | exact trivial | refine ⟨rfl, ?_⟩)) (by first | rfl | kernel_rfl) (by first | rfl | kernel_rfl) (by first | rfl | kernel_rfl) (by first | rfl | kernel_rfl) (hnb_of (by first | rfl | kernel_rfl))) rfl ?_)
  (refine nx (aM (gN rfl) rfl rfl rfl rfl rfl) rfl ?_)
  (refine nx (aX (gN rfl) rfl rfl rfl rfl rfl rfl) rfl ?_)
  (refine nx (aX (gN rfl) rfl rfl rfl rfl rfl rfl) rfl ?_)
  (refine nx (aA (gN rfl) rfl rfl rfl rfl rfl) rfl ?_)
  (refine nx (aA (gN rfl) rfl rfl rfl rfl rfl) rfl ?_)
  show AWp _ _ _ _ _ _ _
  obtain ⟨g, g2⟩ : decide ((at_ : Int) < 0) = false ∧ decide ((m : Int) > 32) = false := skR_good at_ m hm
  have hatl0 : at_ < L.length := (List.getElem?_eq_some_iff.1 hy).1
  refine aS (aS (aR ?_))
  (refine nx (aM (gN rfl) rfl rfl rfl rfl rfl) rfl ?_)
  (refine nx (a_lss (gN rfl) rfl rfl rfl rfl rfl rfl) rfl ?_)
  (refine nx (aM (gN rfl) rfl rfl rfl rfl rfl) rfl ?_)
  (refine nx (aM (gd_on rfl rfl rfl rfl (by first | rfl | assumption | (simp; done))) rfl rfl rfl rfl rfl) rfl ?_)
  (refine nx (a_gtr (gd_on rfl rfl rfl rfl (by first | rfl | assumption | (simp; done))) rfl rfl rfl rfl rfl rfl) rfl ?_)
  (refine ⟨_, _, _, aPf (gN rfl) rfl rfl rfl rfl rfl ?hb rfl, rfl, ?_⟩; case hb => (first | rfl | assumption | (simp; done)))
  show AWp _ _ _ _ _ _ _
  refine aC rfl (fun h => ?_) (fun h => aK ?_)
  · have h : decide ((m : Int) > 32) = true := h
    rw [g2] at h; cases h
  show AWp _ _ _ _ _ _ _
  have hatl : at_ < L.length := (List.getElem?_eq_some_iff.1 hy).1
  have hy' := sv_at hy
  have hsv := svs_size L
  refine aS (aR ?_)
  (refine nx (aM (gN rfl) rfl rfl rfl rfl rfl) rfl ?_)
  (refine nx (aNc (gN rfl) rfl rfl rfl rfl rfl) rfl ?_)
  (refine nx (aF (gN rfl) rfl rfl rfl rfl rfl rfl rfl rfl rfl) rfl ?_)
  (refine nx (aLf (gN rfl) rfl rfl rfl rfl rfl rfl rfl rfl rfl rfl rfl rfl rfl) rfl ?_)
  (refine nx (aM (gN rfl) rfl rfl rfl rfl rfl) rfl ?_)
  (refine nx (a_index (j := at_) (gN rfl) rfl rfl rfl rfl rfl rfl rfl rfl rfl (hy') rfl (hsv)) rfl ?_)
  (refine nx (a_load_ad (gN rfl) rfl rfl rfl rfl rfl rfl rfl rfl rfl) rfl ?_)
  (refine nx (aA (gN rfl) rfl rfl rfl rfl rfl) rfl ?_)
  show AWp _ _ _ _ _ _ _
  subst hys
  refine aS (aS (aR ?_))
  (refine nx (aM (gN rfl) rfl rfl rfl rfl rfl) rfl ?_)
  (refine nx (a_sneq (gN rfl) rfl rfl rfl rfl rfl rfl rfl) rfl ?_)
  (refine nx (aM (gN rfl) rfl rfl rfl rfl rfl) rfl ?_)
  (refine nx (aM (gd_on rfl rfl rfl rfl (by first | rfl | assumption | (simp; done))) rfl rfl rfl rfl rfl) rfl ?_)
  (refine nx (a_sneq (gd_on rfl rfl rfl rfl (by first | rfl | assumption | (simp; done))) rfl rfl rfl rfl rfl rfl rfl) rfl ?_)
  (refine ⟨_, _, _, aPt (gN rfl) rfl rfl rfl rfl rfl ?hb rfl, rfl, ?_⟩; case hb => (first | rfl | assumption | (simp; done)))
  show AWp _ _ _ _ _ _ _
  refine aC rfl (fun h => by cases h) (fun h => aK ?_)
  show AWp _ _ _ _ _ _ _
  have hsk2 := skip12_abs L (by omega) (I + 1) false sg sv_ n2 1 (at_ + 1) r2 (by omega) hr2'
  refine aS (aR ?_)
  (refine nx (aM (gN rfl) rfl rfl rfl rfl rfl) rfl ?_)
  (refine nx (aM (gN rfl) rfl rfl rfl rfl rfl) rfl ?_)
  (refine nx (a_add (gN rfl) rfl rfl rfl rfl rfl rfl (by first | omega | (simp only [List.length_map, List.length_append, List.length_cons, List.length_nil] <;> omega) | (simp <;> omega))) rfl ?_)
  (refine nx (a_callO (gN rfl) rfl rfl rfl rfl rfl (hsk2) (by repeat (first | exact trivial | refine ⟨rfl, ?_⟩)) (by first | rfl | kernel_rfl) (by first | rfl | kernel_rfl) (by first | rfl | kernel_rfl) (by first | rfl | kernel_rfl) (hnb_of (by first | rfl | kernel_rfl))) rfl ?_)
  (refine nx (aM (gN rfl) rfl rfl rfl rfl rfl) rfl ?_)
  (refine nx (aX (gN rfl) rfl rfl rfl rfl rfl rfl) rfl ?_)
  (refine nx (aX (gN rfl) rfl rfl rfl rfl rfl rfl) rfl ?_)
  (refine nx (aA (gN rfl) rfl rfl rfl rfl rfl) rfl ?_)
  (refine nx (aA (gN rfl) rfl rfl rfl rfl rfl) rfl ?_)
  show AWp _ _ _ _ _ _ _
  rcases skR_bad hbad with g | ⟨g, g2⟩
  · refine aS (aS (aR ?_))
    (refine nx (aM (gN rfl) rfl rfl rfl rfl rfl) rfl ?_)
    (refine nx (a_lss (gN rfl) rfl rfl rfl rfl rfl rfl) rfl ?_)
    (refine nx (aM (gN rfl) rfl rfl rfl rfl rfl) rfl ?_)
    (refine ⟨_, _, _, a_off (go_off rfl rfl rfl rfl (by first | rfl | assumption | (simp; done) | (simp [*]; done))) rfl rfl rfl, rfl, ?_⟩)
    (refine ⟨_, _, _, a_off (go_off rfl rfl rfl rfl (by first | rfl | assumption | (simp; done) | (simp [*]; done))) rfl rfl rfl, rfl, ?_⟩)
    (refine ⟨_, _, _, aPt (gN rfl) rfl rfl rfl rfl rfl ?hb rfl, rfl, ?_⟩; case hb => (first | rfl | assumption | (simp; done)))
    show AWp _ _ _ _ _ _ _
    refine aC rfl (fun _ => ?_) (fun h => by cases h)
    refine aS (aR ?_)
    (refine nx (aM (gN rfl) rfl rfl rfl rfl rfl) rfl ?_)
    (refine nx (aNc (gN rfl) rfl rfl rfl rfl rfl) rfl ?_)
    (refine nx (aF (gN rfl) rfl rfl rfl rfl rfl rfl rfl rfl rfl) rfl ?_)
    (refine nx (a_store_fld (gN rfl) rfl rfl rfl rfl rfl rfl rfl rfl rfl rfl rfl rfl) rfl ?_)
    show AWp _ _ _ _ _ _ _
    refine aS (aR ?_)
    (refine nx (aL (gN rfl) rfl rfl rfl rfl rfl rfl rfl rfl rfl rfl rfl rfl) rfl ?_)
    (refine nx (aSt (gN rfl) rfl rfl rfl rfl rfl rfl rfl rfl rfl rfl) rfl ?_)
    show AWp _ _ _ _ _ _ _
    exact aT ⟨.inr rfl, _, Wk.refl _, rfl, rfl, rfl, rfl, rfl, rfl, rfl, rfl, rfl, rfl, rfl, rfl, rfl, trivial⟩
  · refine aS (aS (aR ?_))
    (refine nx (aM (gN rfl) rfl rfl rfl rfl rfl) rfl ?_)
    (refine nx (a_lss (gN rfl) rfl rfl rfl rfl rfl rfl) rfl ?_)
    (refine nx (aM (gN rfl) rfl rfl rfl rfl rfl) rfl ?_)
    (refine nx (aM (gd_on rfl rfl rfl rfl (by first | rfl | assumption | (simp; done))) rfl rfl rfl rfl rfl) rfl ?_)
    (refine nx (a_gtr (gd_on rfl rfl rfl rfl (by first | rfl | assumption | (simp; done))) rfl rfl rfl rfl rfl rfl) rfl ?_)
    (refine ⟨_, _, _, aPf (gN rfl) rfl rfl rfl rfl rfl ?hb rfl, rfl, ?_⟩; case hb => (first | rfl | assumption | (simp; done)))
    show AWp _ _ _ _ _ _ _
    refine aC rfl (fun _ => ?_) (fun h => ?_)
    · refine aS (aR ?_)
      (refine nx (aM (gN rfl) rfl rfl rfl rfl rfl) rfl ?_)
      (refine nx (aNc (gN rfl) rfl rfl rfl rfl rfl) rfl ?_)
      (refine nx (aF (gN rfl) rfl rfl rfl rfl rfl rfl rfl rfl rfl) rfl ?_)
      (refine nx (a_store_fld (gN rfl) rfl rfl rfl rfl rfl rfl rfl rfl rfl rfl rfl rfl) rfl ?_)
      show AWp _ _ _ _ _ _ _
      refine aS (aR ?_)
      (refine nx (aL (gN rfl) rfl rfl rfl rfl rfl rfl rfl rfl rfl rfl rfl rfl) rfl ?_)
      (refine nx (aSt (gN rfl) rfl rfl rfl rfl rfl rfl rfl rfl rfl rfl) rfl ?_)
      show AWp _ _ _ _ _ _ _
      exact aT ⟨.inr rfl, _, Wk.refl _, rfl, rfl, rfl, rfl, rfl, rfl, rfl, rfl, rfl, rfl, rfl, rfl, rfl, trivial⟩
    · have h : decide ((skR r2).2 > 32) = false := h
      rw [g2] at h; cases h
-- 
set_option maxHeartbeats 4000000 in
theorem litD1n_abs (L : List By) (hL : L.length ≤ 50000) (I : Nat) (s : Rs) (hs : s.bad = false) (x : By) (hx : L[I]? = some x) (hneg : decide (x = [126]) = true) (n : Nat) (r : Option (Nat × Nat)) (hr : skI L n 1 (I + 1) none = some r) (at_ m : Nat) (hr2 : r = some (at_, m)) (hm : m ≤ 32) (y : By) (hy : L[at_]? = some y) (hys : y = [33, 61]) (n2 : Nat) (r2 : Option (Nat × Nat)) (hr2' : skI L n2 1 (at_ + 1) none = some r2) (e_ m2 : Nat) (hr3 : r2 = some (e_, m2)) (hm2 : m2 ≤ 32) (t1 : Tm) (s1 : Rs) (ht1 : AFunO Tryd.prog 29 (rdR L (I + 1) s) [.bp 350001 0 [], .val (.b false)] (.val t1.cw) (rdR L at_ s1)) (hb1 : s1.bad = true) :
    AFunO Tryd.prog 18 (rdR L I s) [.bp 350001 0 []] (.val (.row [.b true, t1.cw, .row [.i 0, .lst []]])) (rdR L at_ s1) := by
  subst hr2
  have hIl : I < L.length := (List.getElem?_eq_some_iff.1 hx).1
  obtain ⟨sb, sg, sv_⟩ := s
  have hs : sb = false := hs
  subst hs
  have his := is12_abs L I false sg sv_ [126] x hx
  rw [hneg] at his
  simp only [Bool.not_false, Bool.true_and] at his
  have hxe : x = [126] := of_decide_eq_true hneg
  have htk := take12_yes L I sg sv_ [126] (by rw [← hxe]; exact hx) (by omega)
  have hsk := skip12_abs L (by omega) (I + 1) false sg sv_ n 1 (I + 1) _ (by omega) hr
  simp only [skR] at hsk
  refine afunO_of Tryd.func18 Tryd.ntmps18 rfl rfl rfl rfl rfl rfl ?_
  intro w U hU
  refine aS (aR ?_)
  (refine nx (a_alloc (gN rfl) rfl rfl rfl rfl rfl rfl rfl rfl rfl rfl) (by kernel_rfl) ?_)
  show AWp _ _ _ _ _ _ _
  refine aS (aR ?_)
  (refine nx (aM (gN rfl) rfl rfl rfl rfl rfl) rfl ?_)
  (refine nx (a_callO (gN rfl) rfl rfl rfl rfl rfl (his) (by repeat (first | exact trivial | refine ⟨rfl, ?_⟩)) (by first | rfl | kernel_rfl) (by first | rfl | kernel_rfl) (by first | rfl | kernel_rfl) (by first | rfl | kernel_rfl) (hnb_of (by first | rfl | kernel_rfl))) rfl ?_)
  (refine nx (a_build (gN rfl) rfl rfl rfl rfl rfl rfl rfl rfl rfl rfl rfl) rfl ?_)
  (refine nx (a_alloc (gN rfl) rfl rfl rfl rfl rfl rfl rfl rfl rfl rfl) (by kernel_rfl) ?_)
  (refine nx (aSt (gN rfl) rfl rfl rfl rfl rfl rfl rfl rfl rfl rfl) rfl ?_)
  show AWp _ _ _ _ _ _ _
  refine aS (aS (aR ?_))
  (refine nx (aF (gN rfl) rfl rfl rfl rfl rfl rfl rfl rfl rfl) rfl ?_)
  (refine nx (aLb (gN rfl) rfl rfl rfl rfl rfl rfl rfl rfl rfl rfl rfl rfl) rfl ?_)
  show AWp _ _ _ _ _ _ _
  refine aC rfl (fun _ => ?_) (fun h => by cases h)
  refine aR ?_
  (refine nx (aM (gN rfl) rfl rfl rfl rfl rfl) rfl ?_)
  (refine nx (a_callO (gN rfl) rfl rfl rfl rfl rfl (htk) (by repeat (first | exact trivial | refine ⟨rfl, ?_⟩)) (by first | rfl | kernel_rfl) (by first | rfl | kernel_rfl) (by first | rfl | kernel_rfl) (by first | rfl | kernel_rfl) (hnb_of (by first | rfl | kernel_rfl))) rfl ?_)
  show AWp _ _ _ _ _ _ _
  refine aS (aR ?_)
  (refine nx (aM (gN rfl) rfl rfl rfl rfl rfl) rfl ?_)
  (refine nx (aM (gN rfl) rfl rfl rfl rfl rfl) rfl ?_)
  (refine nx (aNc (gN rfl) rfl rfl rfl rfl rfl) rfl ?_)
  (refine nx (aF (gN rfl) rfl rfl rfl rfl rfl rfl rfl rfl rfl) rfl ?_)
  (refine nx (aLf (gN rfl) rfl rfl rfl rfl rfl rfl rfl rfl rfl rfl rfl rfl rfl) rfl ?_)
  (refine nx (a_callO (gN rfl) rfl rfl rfl rfl rfl (hsk) (by repeat (first | exact trivial | refine ⟨rfl, ?_⟩)) (by first | rfl | kernel_rfl) (by first | rfl | kernel_rfl) (by first | rfl | kernel_rfl) (by first | rfl | kernel_rfl) (hnb_of (by first | rfl | kernel_rfl))) rfl ?_)
  (refine nx (aM (gN rfl) rfl rfl rfl rfl rfl) rfl ?_)
  (refine nx (aX (gN rfl) rfl rfl rfl rfl rfl rfl) rfl ?_)
  (refine nx (aX (gN rfl) rfl rfl rfl rfl rfl rfl) rfl ?_)
  (refine nx (aA (gN rfl) rfl rfl rfl rfl rfl) rfl ?_)
  (refine nx (aA (gN rfl) rfl rfl rfl rfl rfl) rfl ?_)
  show AWp _ _ _ _ _ _ _
  obtain ⟨g, g2⟩ : decide ((at_ : Int) < 0) = false ∧ decide ((m : Int) > 32) = false := skR_good at_ m hm
  have hatl0 : at_ < L.length := (List.getElem?_eq_some_iff.1 hy).1
  refine aS (aS (aR ?_))
  (refine nx (aM (gN rfl) rfl rfl rfl rfl rfl) rfl ?_)
  (refine nx (a_lss (gN rfl) rfl rfl rfl rfl rfl rfl) rfl ?_)
  (refine nx (aM (gN rfl) rfl rfl rfl rfl rfl) rfl ?_)
  (refine nx (aM (gd_on rfl rfl rfl rfl (by first | rfl | assumption | (simp; done))) rfl rfl rfl rfl rfl) rfl ?_)
  (refine nx (a_gtr (gd_on rfl rfl rfl rfl (by first | rfl | assumption | (simp; done))) rfl rfl rfl rfl rfl rfl) rfl ?_)
  (refine ⟨_, _, _, aPf (gN rfl) rfl rfl rfl rfl rfl ?hb rfl, rfl, ?_⟩; case hb => (first | rfl | assumption | (simp; done)))
  show AWp _ _ _ _ _ _ _
  refine aC rfl (fun h => ?_) (fun h => aK ?_)
  · have h : decide ((m : Int) > 32) = true := h
    rw [g2] at h; cases h
  show AWp _ _ _ _ _ _ _
  have hatl : at_ < L.length := (List.getElem?_eq_some_iff.1 hy).1
  have hy' := sv_at hy
  have hsv := svs_size L
  refine aS (aR ?_)
  (refine nx (aM (gN rfl) rfl rfl rfl rfl rfl) rfl ?_)
  (refine nx (aNc (gN rfl) rfl rfl rfl rfl rfl) rfl ?_)
  (refine nx (aF (gN rfl) rfl rfl rfl rfl rfl rfl rfl rfl rfl) rfl ?_)
  (refine nx (aLf (gN rfl) rfl rfl rfl rfl rfl rfl rfl rfl rfl rfl rfl rfl rfl) rfl ?_)
  (refine nx (aM (gN rfl) rfl rfl rfl rfl rfl) rfl ?_)
  (refine nx (a_index (j := at_) (gN rfl) rfl rfl rfl rfl rfl rfl rfl rfl rfl (hy') rfl (hsv)) rfl ?_)
  (refine nx (a_load_ad (gN rfl) rfl rfl rfl rfl rfl rfl rfl rfl rfl) rfl ?_)
  (refine nx (aA (gN rfl) rfl rfl rfl rfl rfl) rfl ?_)
  show AWp _ _ _ _ _ _ _
  subst hys
  refine aS (aS (aR ?_))
  (refine nx (aM (gN rfl) rfl rfl rfl rfl rfl) rfl ?_)
  (refine nx (a_sneq (gN rfl) rfl rfl rfl rfl rfl rfl rfl) rfl ?_)
  (refine nx (aM (gN rfl) rfl rfl rfl rfl rfl) rfl ?_)
  (refine nx (aM (gd_on rfl rfl rfl rfl (by first | rfl | assumption | (simp; done))) rfl rfl rfl rfl rfl) rfl ?_)
  (refine nx (a_sneq (gd_on rfl rfl rfl rfl (by first | rfl | assumption | (simp; done))) rfl rfl rfl rfl rfl rfl rfl) rfl ?_)
  (refine ⟨_, _, _, aPt (gN rfl) rfl rfl rfl rfl rfl ?hb rfl, rfl, ?_⟩; case hb => (first | rfl | assumption | (simp; done)))
  show AWp _ _ _ _ _ _ _
  refine aC rfl (fun h => by cases h) (fun h => aK ?_)
  show AWp _ _ _ _ _ _ _
  subst hr3
  have hsk2 := skip12_abs L (by omega) (I + 1) false sg sv_ n2 1 (at_ + 1) _ (by omega) hr2'
  simp only [skR] at hsk2
  refine aS (aR ?_)
  (refine nx (aM (gN rfl) rfl rfl rfl rfl rfl) rfl ?_)
  (refine nx (aM (gN rfl) rfl rfl rfl rfl rfl) rfl ?_)
  (refine nx (a_add (gN rfl) rfl rfl rfl rfl rfl rfl (by first | omega | (simp only [List.length_map, List.length_append, List.length_cons, List.length_nil] <;> omega) | (simp <;> omega))) rfl ?_)
  (refine nx (a_callO (gN rfl) rfl rfl rfl rfl rfl (hsk2) (by repeat (first | exact trivial | refine ⟨rfl, ?_⟩)) (by first | rfl | kernel_rfl) (by first | rfl | kernel_rfl) (by first | rfl | kernel_rfl) (by first | rfl | kernel_rfl) (hnb_of (by first | rfl | kernel_rfl))) rfl ?_)
  (refine nx (aM (gN rfl) rfl rfl rfl rfl rfl) rfl ?_)
  (refine nx (aX (gN rfl) rfl rfl rfl rfl rfl rfl) rfl ?_)
  (refine nx (aX (gN rfl) rfl rfl rfl rfl rfl rfl) rfl ?_)
  (refine nx (aA (gN rfl) rfl rfl rfl rfl rfl) rfl ?_)
  (refine nx (aA (gN rfl) rfl rfl rfl rfl rfl) rfl ?_)
  show AWp _ _ _ _ _ _ _
  obtain ⟨g5, g6⟩ : decide ((e_ : Int) < 0) = false ∧ decide ((m2 : Int) > 32) = false := skR_good e_ m2 hm2
  refine aS (aS (aR ?_))
  (refine nx (aM (gN rfl) rfl rfl rfl rfl rfl) rfl ?_)
  (refine nx (a_lss (gN rfl) rfl rfl rfl rfl rfl rfl) rfl ?_)
  (refine nx (aM (gN rfl) rfl rfl rfl rfl rfl) rfl ?_)
  (refine nx (aM (gd_on rfl rfl rfl rfl (by first | rfl | assumption | (simp; done))) rfl rfl rfl rfl rfl) rfl ?_)
  (refine nx (a_gtr (gd_on rfl rfl rfl rfl (by first | rfl | assumption | (simp; done))) rfl rfl rfl rfl rfl rfl) rfl ?_)
  (refine ⟨_, _, _, aPf (gN rfl) rfl rfl rfl rfl rfl ?hb rfl, rfl, ?_⟩; case hb => (first | rfl | assumption | (simp; done)))
  show AWp _ _ _ _ _ _ _
  refine aC rfl (fun h => ?_) (fun h => aK ?_)
  · have h : decide ((m2 : Int) > 32) = true := h
    rw [g6] at h; cases h
  show AWp _ _ _ _ _ _ _
  obtain ⟨b1, g1_, v1_⟩ := s1
  have hb1 : b1 = true := hb1
  subst hb1
  refine aS (aR ?_)
  (refine nx (aM (gN rfl) rfl rfl rfl rfl rfl) rfl ?_)
  (refine nx (a_callO (gN rfl) rfl rfl rfl rfl rfl (ht1) (by repeat (first | exact trivial | refine ⟨rfl, ?_⟩)) (by first | rfl | kernel_rfl) (by first | rfl | kernel_rfl) (by first | rfl | kernel_rfl) (by first | rfl | kernel_rfl) (hnb_of (by first | rfl | kernel_rfl))) rfl ?_)
  (refine nx (aF (gN rfl) rfl rfl rfl rfl rfl rfl rfl rfl rfl) rfl ?_)
  (refine nx (a_store (gN rfl) rfl rfl rfl rfl rfl rfl rfl rfl rfl rfl) rfl ?_)
  show AWp _ _ _ _ _ _ _
  have htk2 := take12_no L at_ true g1_ v1_ [33, 61] [33, 61] hy rfl
  refine aS (aR ?_)
  (refine nx (aM (gN rfl) rfl rfl rfl rfl rfl) rfl ?_)
  (refine nx (aM (gN rfl) rfl rfl rfl rfl rfl) rfl ?_)
  (refine nx (a_callO (gN rfl) rfl rfl rfl rfl rfl (htk2) (by repeat (first | exact trivial | refine ⟨rfl, ?_⟩)) (by first | rfl | kernel_rfl) (by first | rfl | kernel_rfl) (by first | rfl | kernel_rfl) (by first | rfl | kernel_rfl) (hnb_of (by first | rfl | kernel_rfl))) rfl ?_)
  show AWp _ _ _ _ _ _ _
  refine aS (aS (aR ?_))
  (refine nx (aM (gN rfl) rfl rfl rfl rfl rfl) rfl ?_)
  (refine nx (aNc (gN rfl) rfl rfl rfl rfl rfl) rfl ?_)
  (refine nx (aF (gN rfl) rfl rfl rfl rfl rfl rfl rfl rfl rfl) rfl ?_)
  (refine nx (aLf (gN rfl) rfl rfl rfl rfl rfl rfl rfl rfl rfl rfl rfl rfl rfl) rfl ?_)
  show AWp _ _ _ _ _ _ _
  refine aC rfl (fun _ => ?_) (fun h => by cases h)
  refine aS (aR ?_)
  (refine nx (aL (gN rfl) rfl rfl rfl rfl rfl rfl rfl rfl rfl rfl rfl rfl) rfl ?_)
  (refine nx (aSt (gN rfl) rfl rfl rfl rfl rfl rfl rfl rfl rfl rfl) rfl ?_)
  show AWp _ _ _ _ _ _ _
  exact aT ⟨.inr rfl, _, Wk.refl _, rfl, rfl, rfl, rfl, rfl, rfl, rfl, rfl, rfl, rfl, rfl, rfl, rfl, trivial⟩
-- 
set_option maxHeartbeats 4000000 in
theorem litE1n_abs (L : List By) (hL : L.length ≤ 50000) (I : Nat) (s : Rs) (hs : s.bad = false) (x : By) (hx : L[I]? = some x) (hneg : decide (x = [126]) = true) (n : Nat) (r : Option (Nat × Nat)) (hr : skI L n 1 (I + 1) none = some r) (at_ m : Nat) (hr2 : r = some (at_, m)) (hm : m ≤ 32) (y : By) (hy : L[at_]? = some y) (hys : y = [33, 61]) (n2 : Nat) (r2 : Option (Nat × Nat)) (hr2' : skI L n2 1 (at_ + 1) none = some r2) (e_ m2 : Nat) (hr3 : r2 = some (e_, m2)) (hm2 : m2 ≤ 32) (t1 : Tm) (s1 : Rs) (ht1 : AFunO Tryd.prog 29 (rdR L (I + 1) s) [.bp 350001 0 [], .val (.b false)] (.val t1.cw) (rdR L at_ s1)) (hb1 : s1.bad = false) (t2 : Tm) (s2 : Rs) (I2 : Nat) (ht2 : AFunO Tryd.prog 29 (rdR L (at_ + 1) s1) [.bp 350001 0 [], .val (.b false)] (.val t2.cw) (rdR L I2 s2)) :
    AFunO Tryd.prog 18 (rdR L I s) [.bp 350001 0 []] (.val (.row [.b false, t1.cw, t2.cw])) (rdR L I2 s2) := by
  subst hr2
  have hIl : I < L.length := (List.getElem?_eq_some_iff.1 hx).1
  obtain ⟨sb, sg, sv_⟩ := s
  have hs : sb = false := hs
  subst hs
  have his := is12_abs L I false sg sv_ [126] x hx
  rw [hneg] at his
  simp only [Bool.not_false, Bool.true_and] at his
  have hxe : x = [126] := of_decide_eq_true hneg
  have htk := take12_yes L I sg sv_ [126] (by rw [← hxe]; exact hx) (by omega)
  have hsk := skip12_abs L (by omega) (I + 1) false sg sv_ n 1 (I + 1) _ (by omega) hr
  simp only [skR] at hsk
  refine afunO_of Tryd.func18 Tryd.ntmps18 rfl rfl rfl rfl rfl rfl ?_
  intro w U hU
  refine aS (aR ?_)
  (refine nx (a_alloc (gN rfl) rfl rfl rfl rfl rfl rfl rfl rfl rfl rfl) (by kernel_rfl) ?_)
  show AWp _ _ _ _ _ _ _
  refine aS (aR ?_)
  (refine nx (aM (gN rfl) rfl rfl rfl rfl rfl) rfl ?_)
  (refine nx (a_callO (gN rfl) rfl rfl rfl rfl rfl (his) (by repeat (first | exact trivial | refine ⟨rfl, ?_⟩)) (by first | rfl | kernel_rfl) (by first | rfl | kernel_rfl) (by first | rfl | kernel_rfl) (by first | rfl | kernel_rfl) (hnb_of (by first | rfl | kernel_rfl))) rfl ?_)
  (refine nx (a_build (gN rfl) rfl rfl rfl rfl rfl rfl rfl rfl rfl rfl rfl) rfl ?_)
  (refine nx (a_alloc (gN rfl) rfl rfl rfl rfl rfl rfl rfl rfl rfl rfl) (by kernel_rfl) ?_)
  (refine nx (aSt (gN rfl) rfl rfl rfl rfl rfl rfl rfl rfl rfl rfl) rfl ?_)
  show AWp _ _ _ _ _ _ _
  refine aS (aS (aR ?_))
  (refine nx (aF (gN rfl) rfl rfl rfl rfl rfl rfl rfl rfl rfl) rfl ?_)
  (refine nx (aLb (gN rfl) rfl rfl rfl rfl rfl rfl rfl rfl rfl rfl rfl rfl) rfl ?_)
  show AWp _ _ _ _ _ _ _
  refine aC rfl (fun _ => ?_) (fun h => by cases h)
  refine aR ?_
  (refine nx (aM (gN rfl) rfl rfl rfl rfl rfl) rfl ?_)
  (refine nx (a_callO (gN rfl) rfl rfl rfl rfl rfl (htk) (by repeat (first | exact trivial | refine ⟨rfl, ?_⟩)) (by first | rfl | kernel_rfl) (by first | rfl | kernel_rfl) (by first | rfl | kernel_rfl) (by first | rfl | kernel_rfl) (hnb_of (by first | rfl | kernel_rfl))) rfl ?_)
  show AWp _ _ _ _ _ _ _
  refine aS (aR ?_)
  (refine nx (aM (gN rfl) rfl rfl rfl rfl rfl) rfl ?_)
  (refine nx (aM (gN rfl) rfl rfl rfl rfl rfl) rfl ?_)
  (refine nx (aNc (gN rfl) rfl rfl rfl rfl rfl) rfl ?_)
  (refine nx (aF (gN rfl) rfl rfl rfl rfl rfl rfl rfl rfl rfl) rfl ?_)
  (refine nx (aLf (gN rfl) rfl rfl rfl rfl rfl rfl rfl rfl rfl rfl rfl rfl rfl) rfl ?_)
  (refine nx (a_callO (gN rfl) rfl rfl rfl rfl rfl (hsk) (by repeat (first | exact trivial | refine ⟨rfl, ?_⟩)) (by first | rfl | kernel_rfl) (by first | rfl | kernel_rfl) (by first | rfl | kernel_rfl) (by first | rfl | kernel_rfl) (hnb_of (by first | rfl | kernel_rfl))) rfl ?_)
  (refine nx (aM (gN rfl) rfl rfl rfl rfl rfl) rfl ?_)
  (refine nx (aX (gN rfl) rfl rfl rfl rfl rfl rfl) rfl ?_)
  (refine nx (aX (gN rfl) rfl rfl rfl rfl rfl rfl) rfl ?_)
  (refine nx (aA (gN rfl) rfl rfl rfl rfl rfl) rfl ?_)
  (refine nx (aA (gN rfl) rfl rfl rfl rfl rfl) rfl ?_)
  show AWp _ _ _ _ _ _ _
  obtain ⟨g, g2⟩ : decide ((at_ : Int) < 0) = false ∧ decide ((m : Int) > 32) = false := skR_good at_ m hm
  have hatl0 : at_ < L.length := (List.getElem?_eq_some_iff.1 hy).1
  refine aS (aS (aR ?_))
  (refine nx (aM (gN rfl) rfl rfl rfl rfl rfl) rfl ?_)
  (refine nx (a_lss (gN rfl) rfl rfl rfl rfl rfl rfl) rfl ?_)
  (refine nx (aM (gN rfl) rfl rfl rfl rfl rfl) rfl ?_)
  (refine nx (aM (gd_on rfl rfl rfl rfl (by first | rfl | assumption | (simp; done))) rfl rfl rfl rfl rfl) rfl ?_)
  (refine nx (a_gtr (gd_on rfl rfl rfl rfl (by first | rfl | assumption | (simp; done))) rfl rfl rfl rfl rfl rfl) rfl ?_)
  (refine ⟨_, _, _, aPf (gN rfl) rfl rfl rfl rfl rfl ?hb rfl, rfl, ?_⟩; case hb => (first | rfl | assumption | (simp; done)))
  show AWp _ _ _ _ _ _ _
  refine aC rfl (fun h => ?_) (fun h => aK ?_)
  · have h : decide ((m : Int) > 32) = true := h
    rw [g2] at h; cases h
  show AWp _ _ _ _ _ _ _
  have hatl : at_ < L.length := (List.getElem?_eq_some_iff.1 hy).1
  have hy' := sv_at hy
  have hsv := svs_size L
  refine aS (aR ?_)
  (refine nx (aM (gN rfl) rfl rfl rfl rfl rfl) rfl ?_)
  (refine nx (aNc (gN rfl) rfl rfl rfl rfl rfl) rfl ?_)
  (refine nx (aF (gN rfl) rfl rfl rfl rfl rfl rfl rfl rfl rfl) rfl ?_)
  (refine nx (aLf (gN rfl) rfl rfl rfl rfl rfl rfl rfl rfl rfl rfl rfl rfl rfl) rfl ?_)
  (refine nx (aM (gN rfl) rfl rfl rfl rfl rfl) rfl ?_)
  (refine nx (a_index (j := at_) (gN rfl) rfl rfl rfl rfl rfl rfl rfl rfl rfl (hy') rfl (hsv)) rfl ?_)
  (refine nx (a_load_ad (gN rfl) rfl rfl rfl rfl rfl rfl rfl rfl rfl) rfl ?_)
  (refine nx (aA (gN rfl) rfl rfl rfl rfl rfl) rfl ?_)
  show AWp _ _ _ _ _ _ _
  subst hys
  refine aS (aS (aR ?_))
  (refine nx (aM (gN rfl) rfl rfl rfl rfl rfl) rfl ?_)
  (refine nx (a_sneq (gN rfl) rfl rfl rfl rfl rfl rfl rfl) rfl ?_)
  (refine nx (aM (gN rfl) rfl rfl rfl rfl rfl) rfl ?_)
  (refine nx (aM (gd_on rfl rfl rfl rfl (by first | rfl | assumption | (simp; done))) rfl rfl rfl rfl rfl) rfl ?_)
  (refine nx (a_sneq (gd_on rfl rfl rfl rfl (by first | rfl | assumption | (simp; done))) rfl rfl rfl rfl rfl rfl rfl) rfl ?_)
  (refine ⟨_, _, _, aPt (gN rfl) rfl rfl rfl rfl rfl ?hb rfl, rfl, ?_⟩; case hb => (first | rfl | assumption | (simp; done)))
  show AWp _ _ _ _ _ _ _
  refine aC rfl (fun h => by cases h) (fun h => aK ?_)
  show AWp _ _ _ _ _ _ _
  subst hr3
  have hsk2 := skip12_abs L (by omega) (I + 1) false sg sv_ n2 1 (at_ + 1) _ (by omega) hr2'
  simp only [skR] at hsk2
  refine aS (aR ?_)
  (refine nx (aM (gN rfl) rfl rfl rfl rfl rfl) rfl ?_)
  (refine nx (aM (gN rfl) rfl rfl rfl rfl rfl) rfl ?_)
  (refine nx (a_add (gN rfl) rfl rfl rfl rfl rfl rfl (by first | omega | (simp only [List.length_map, List.length_append, List.length_cons, List.length_nil] <;> omega) | (simp <;> omega))) rfl ?_)
  (refine nx (a_callO (gN rfl) rfl rfl rfl rfl rfl (hsk2) (by repeat (first | exact trivial | refine ⟨rfl, ?_⟩)) (by first | rfl | kernel_rfl) (by first | rfl | kernel_rfl) (by first | rfl | kernel_rfl) (by first | rfl | kernel_rfl) (hnb_of (by first | rfl | kernel_rfl))) rfl ?_)
  (refine nx (aM (gN rfl) rfl rfl rfl rfl rfl) rfl ?_)
  (refine nx (aX (gN rfl) rfl rfl rfl rfl rfl rfl) rfl ?_)
  (refine nx (aX (gN rfl) rfl rfl rfl rfl rfl rfl) rfl ?_)
  (refine nx (aA (gN rfl) rfl rfl rfl rfl rfl) rfl ?_)
  (refine nx (aA (gN rfl) rfl rfl rfl rfl rfl) rfl ?_)
  show AWp _ _ _ _ _ _ _
  obtain ⟨g5, g6⟩ : decide ((e_ : Int) < 0) = false ∧ decide ((m2 : Int) > 32) = false := skR_good e_ m2 hm2
  refine aS (aS (aR ?_))
  (refine nx (aM (gN rfl) rfl rfl rfl rfl rfl) rfl ?_)
  (refine nx (a_lss (gN rfl) rfl rfl rfl rfl rfl rfl) rfl ?_)
  (refine nx (aM (gN rfl) rfl rfl rfl rfl rfl) rfl ?_)
  (refine nx (aM (gd_on rfl rfl rfl rfl (by first | rfl | assumption | (simp; done))) rfl rfl rfl rfl rfl) rfl ?_)
  (refine nx (a_gtr (gd_on rfl rfl rfl rfl (by first | rfl | assumption | (simp; done))) rfl rfl rfl rfl rfl rfl) rfl ?_)
  (refine ⟨_, _, _, aPf (gN rfl) rfl rfl rfl rfl rfl ?hb rfl, rfl, ?_⟩; case hb => (first | rfl | assumption | (simp; done)))
  show AWp _ _ _ _ _ _ _
  refine aC rfl (fun h => ?_) (fun h => aK ?_)
  · have h : decide ((m2 : Int) > 32) = true := h
    rw [g6] at h; cases h
  show AWp _ _ _ _ _ _ _
  obtain ⟨b1, g1_, v1_⟩ := s1
  have hb1 : b1 = false := hb1
  subst hb1
  refine aS (aR ?_)
  (refine nx (aM (gN rfl) rfl rfl rfl rfl rfl) rfl ?_)
  (refine nx (a_callO (gN rfl) rfl rfl rfl rfl rfl (ht1) (by repeat (first | exact trivial | refine ⟨rfl, ?_⟩)) (by first | rfl | kernel_rfl) (by first | rfl | kernel_rfl) (by first | rfl | kernel_rfl) (by first | rfl | kernel_rfl) (hnb_of (by first | rfl | kernel_rfl))) rfl ?_)
  (refine nx (aF (gN rfl) rfl rfl rfl rfl rfl rfl rfl rfl rfl) rfl ?_)
  (refine nx (a_store (gN rfl) rfl rfl rfl rfl rfl rfl rfl rfl rfl rfl) rfl ?_)
  show AWp _ _ _ _ _ _ _
  have htk2 := take12_yes L at_ g1_ v1_ [33, 61] hy (by omega)
  refine aS (aR ?_)
  (refine nx (aM (gN rfl) rfl rfl rfl rfl rfl) rfl ?_)
  (refine nx (aM (gN rfl) rfl rfl rfl rfl rfl) rfl ?_)
  (refine nx (a_callO (gN rfl) rfl rfl rfl rfl rfl (htk2) (by repeat (first | exact trivial | refine ⟨rfl, ?_⟩)) (by first | rfl | kernel_rfl) (by first | rfl | kernel_rfl) (by first | rfl | kernel_rfl) (by first | rfl | kernel_rfl) (hnb_of (by first | rfl | kernel_rfl))) rfl ?_)
  show AWp _ _ _ _ _ _ _
  refine aS (aS (aR ?_))
  (refine nx (aM (gN rfl) rfl rfl rfl rfl rfl) rfl ?_)
  (refine nx (aNc (gN rfl) rfl rfl rfl rfl rfl) rfl ?_)
  (refine nx (aF (gN rfl) rfl rfl rfl rfl rfl rfl rfl rfl rfl) rfl ?_)
  (refine nx (aLf (gN rfl) rfl rfl rfl rfl rfl rfl rfl rfl rfl rfl rfl rfl rfl) rfl ?_)
  show AWp _ _ _ _ _ _ _
  refine aC rfl (fun h => by cases h) (fun _ => aK ?_)
  show AWp _ _ _ _ _ _ _
  refine aS (aR ?_)
  (refine nx (aM (gN rfl) rfl rfl rfl rfl rfl) rfl ?_)
  (refine nx (a_callO (gN rfl) rfl rfl rfl rfl rfl (ht2) (by repeat (first | exact trivial | refine ⟨rfl, ?_⟩)) (by first | rfl | kernel_rfl) (by first | rfl | kernel_rfl) (by first | rfl | kernel_rfl) (by first | rfl | kernel_rfl) (hnb_of (by first | rfl | kernel_rfl))) rfl ?_)
  (refine nx (aF (gN rfl) rfl rfl rfl rfl rfl rfl rfl rfl rfl) rfl ?_)
  (refine nx (a_store (gN rfl) rfl rfl rfl rfl rfl rfl rfl rfl rfl rfl) rfl ?_)
  show AWp _ _ _ _ _ _ _
  refine aS (aS (aR ?_))
  (refine nx (aM (gN rfl) rfl rfl rfl rfl rfl) rfl ?_)
  (refine nx (a_seql (gN rfl) rfl rfl rfl rfl rfl rfl rfl) rfl ?_)
  show AWp _ _ _ _ _ _ _
  refine aC rfl (fun _ => ?_) (fun h => by cases h)
  refine aR ?_
  (refine nx (aF (gN rfl) rfl rfl rfl rfl rfl rfl rfl rfl rfl) rfl ?_)
  (refine nx (aLb (gN rfl) rfl rfl rfl rfl rfl rfl rfl rfl rfl rfl rfl rfl) rfl ?_)
  (refine nx (a_not (gN rfl) rfl rfl rfl rfl rfl) rfl ?_)
  (refine nx (aF (gN rfl) rfl rfl rfl rfl rfl rfl rfl rfl rfl) rfl ?_)
  (refine nx (a_store (gN rfl) rfl rfl rfl rfl rfl rfl rfl rfl rfl rfl) rfl ?_)
  show AWp _ _ _ _ _ _ _
  refine aS (aR ?_)
  (refine nx (aL (gN rfl) rfl rfl rfl rfl rfl rfl rfl rfl rfl rfl rfl rfl) rfl ?_)
  (refine nx (aSt (gN rfl) rfl rfl rfl rfl rfl rfl rfl rfl rfl rfl) rfl ?_)
  show AWp _ _ _ _ _ _ _
  exact aT ⟨.inr rfl, _, Wk.refl _, rfl, rfl, rfl, rfl, rfl, rfl, rfl, rfl, rfl, rfl, rfl, rfl, rfl, trivial⟩
end Go.Proofs.YtglbohajmccehaaDoor

namespace Go.Proofs.YtglbohajmccehaaDoor
open Go.RowKit
set_option linter.unusedVariables false
set_option linter.unusedSimpArgs false
set_option maxRecDepth 100000
structure Rel (s : Rs) (st : Nm) : Prop where
  g : s.g = st.sg
  v : s.vs = st.vr.map Prod.fst
  vn : ∀ (i : Nat) (p : By × Nat), st.vr[i]? = some p → p.2 = i
  la : st.sg.ar.length = st.sg.nm.length
  lp : st.sg.pr.length = st.sg.nm.length
  top : st.sg.nm[0]? = some [36, 116, 114, 117, 101]
  nd : ∀ (i j : Nat) (x : By), st.sg.nm[i]? = some x → st.sg.nm[j]? = some x → i = j
  sy : ∀ (k : Kd) (i : Nat), 0 < i → (lkA st.sy k = some i ↔ st.sg.nm[i]? = some k.1 ∧ st.sg.ar[i]? = some k.2.1 ∧ st.sg.pr[i]? = some k.2.2)
  s0 : ∀ k, lkA st.sy k ≠ some 0
  few : st.sg.nm.length ≤ 201
theorem Rel.ok {s : Rs} {st : Nm} (h : Rel s st) : s.ok := ⟨by rw [h.g]; exact h.la, by rw [h.g]; exact h.lp⟩
theorem fnd_none {l : List By} {x : By} : fndB l x < 0 ↔ x ∉ l := by
  unfold fndB
  cases h : l.findIdx? (fun y => decide (y = x)) with
  | none =>
    simp only
    refine ⟨fun _ hm => ?_, fun _ => by decide⟩
    have := List.findIdx?_eq_none_iff.1 h x hm
    simp at this
  | some i =>
    obtain ⟨hi, hp, _⟩ := List.findIdx?_eq_some_iff_getElem.1 h
    have hp : l[i] = x := of_decide_eq_true hp
    simp only
    refine ⟨fun h => by omega, fun hm => absurd (hp ▸ List.getElem_mem hi) hm⟩
theorem fnd_some {l : List By} {x : By} (h : ¬ fndB l x < 0) : l[(fndB l x).toNat]? = some x := by
  unfold fndB at h ⊢
  cases hf : l.findIdx? (fun y => decide (y = x)) with
  | none => rw [hf] at h; simp at h
  | some i =>
    obtain ⟨hi, hp, _⟩ := List.findIdx?_eq_some_iff_getElem.1 hf
    simp only [Int.toNat_natCast]
    rw [List.getElem?_eq_getElem hi, of_decide_eq_true hp]
theorem fnd_at {l : List By} {x : By} {i : Nat} (hnd : ∀ i j : Nat, l[i]? = some x → l[j]? = some x → i = j) (h : l[i]? = some x) : fndB l x = (i : Int) := by
  have hn : ¬ fndB l x < 0 := fun e => fnd_none.1 e (List.mem_of_getElem? h)
  have := hnd _ _ (fnd_some hn) h
  omega
theorem lk_none {α : Type} [DecidableEq α] {l : List (α × Nat)} {k : α} : lkA l k = none ↔ k ∉ l.map Prod.fst := by
  constructor
  · intro h hm
    obtain ⟨p, hp, rfl⟩ := List.mem_map.1 hm
    exact lkA_none h p hp rfl
  · intro h
    cases hl : lkA l k with
    | none => rfl
    | some i => exact absurd (List.mem_map.2 ⟨_, lkA_some hl, rfl⟩) h
theorem lk_app {α : Type} [DecidableEq α] (l : List (α × Nat)) (k k' : α) (i : Nat) (h : lkA l k = none) : lkA (l ++ [(k, i)]) k' = if k' = k then some i else lkA l k' := by
  unfold lkA
  rw [List.find?_append]
  by_cases e : k' = k
  · subst e
    unfold lkA at h
    rw [Option.map_eq_none_iff] at h
    rw [h, if_pos rfl]
    simp
  · rw [if_neg e]
    cases hf : l.find? (fun p => decide (p.1 = k')) with
    | some p => simp
    | none =>
      have e2 : ¬ k = k' := fun h => e h.symm
      simp [e2]
theorem var_rel {s : Rs} {st : Nm} (h : Rel s st) (v : By) : (vrD s.vs v).1 = (varF st v).1 ∧ Rel ⟨s.bad, s.g, (vrD s.vs v).2⟩ (varF st v).2 := by
  unfold vrD varF
  cases hl : lkA st.vr v with
  | none =>
    have hn : fndB s.vs v < 0 := fnd_none.2 (by rw [h.v]; exact lk_none.1 hl)
    rw [if_pos hn]
    refine ⟨by rw [h.v, List.length_map], h.g, by rw [h.v, List.map_append]; rfl, fun i p hp => ?_, h.la, h.lp, h.top, h.nd, h.sy, h.s0, h.few⟩
    rcases Nat.lt_or_ge i st.vr.length with hi | hi
    · rw [List.getElem?_append_left hi] at hp; exact h.vn i p hp
    · rw [List.getElem?_append_right hi] at hp
      cases hd : i - st.vr.length with
      | zero => rw [hd] at hp; simp at hp; rw [← hp]; show st.vr.length = i; omega
      | succ q => rw [hd] at hp; simp at hp
  | some i =>
    have hm := lkA_some hl
    have hn : ¬ fndB s.vs v < 0 := fun e => fnd_none.1 e (by rw [h.v]; exact List.mem_map.2 ⟨_, hm, rfl⟩)
    rw [if_neg hn]
    refine ⟨?_, h.g, h.v, h.vn, h.la, h.lp, h.top, h.nd, h.sy, h.s0, h.few⟩
    -- the place that is found is the first one
    show (fndB s.vs v).toNat = i
    rw [h.v]
    unfold lkA at hl
    unfold fndB
    rw [List.findIdx?_map]
    cases hf : st.vr.find? (fun p => decide (p.1 = v)) with
    | none => rw [hf] at hl; cases hl
    | some p =>
      rw [hf] at hl
      have hl : p.2 = i := by simpa using hl
      obtain ⟨j, hj⟩ : ∃ j, st.vr.findIdx? ((fun y => decide (y = v)) ∘ Prod.fst) = some j := by
        cases hx : st.vr.findIdx? ((fun y => decide (y = v)) ∘ Prod.fst) with
        | some j => exact ⟨j, rfl⟩
        | none =>
          have := List.findIdx?_eq_none_iff.1 hx p (List.mem_of_find?_eq_some hf)
          have h2 := List.find?_some hf
          simp only [Function.comp_apply] at this
          rw [this] at h2; cases h2
      rw [hj]
      simp only [Int.toNat_natCast]
      obtain ⟨hjl, hjp, hjm⟩ := List.findIdx?_eq_some_iff_getElem.1 hj
      have hjv : st.vr[j].2 = j := h.vn j _ (List.getElem?_eq_getElem hjl)
      have hfj : st.vr.find? (fun p => decide (p.1 = v)) = some st.vr[j] := by
        rw [List.find?_eq_some_iff_getElem]
        refine ⟨hjp, j, hjl, rfl, fun q hq => ?_⟩
        have := hjm q hq
        simpa using this
      rw [hf] at hfj
      have : p = st.vr[j] := Option.some.inj hfj
      rw [← hl, this, hjv]
theorem num_rel {s : Rs} {st : Nm} (h : Rel s st) (hb : s.bad = false) {nm : By} (hne : nm ≠ [36, 116, 114, 117, 101]) (n : Nat) (pred : Bool) :
    ((numF st (nm, n, pred)).2.1 = true → (smD s.g nm n pred).1 = (numF st (nm, n, pred)).1 ∧ (smS s nm n pred).bad = false ∧ Rel (smS s nm n pred) (numF st (nm, n, pred)).2.2) ∧ ((numF st (nm, n, pred)).2.1 = false → (smS s nm n pred).bad = true) := by
  have hg := h.g
  unfold numF
  cases hl : lkA st.sy (nm, n, pred) with
  | some i =>
    have hi0 : 0 < i := Nat.pos_of_ne_zero fun e => h.s0 _ (by rw [hl, e])
    obtain ⟨h1, h2, h3⟩ := (h.sy _ i hi0).1 hl
    have hf : fndB s.g.nm nm = (i : Int) := fnd_at (fun a b => by rw [hg]; exact h.nd a b nm) (by rw [hg]; exact h1)
    have hsm : smD s.g nm n pred = (i, s.g) := by unfold smD; rw [if_neg (by omega), hf]; rfl
    have hi200 : i ≤ 200 := by
      have := (List.getElem?_eq_some_iff.1 h1).1
      have := h.few
      omega
    have hb2 : (smS s nm n pred).bad = false := by
      unfold smS
      rw [hsm, hb]
      simp only [hg, h2, h3, Option.getD_some]
      simp
      omega
    simp only
    refine ⟨fun _ => ⟨by rw [hsm], hb2, ?_⟩, fun e => by cases e⟩
    have e : smS s nm n pred = ⟨(smS s nm n pred).bad, s.g, s.vs⟩ := by unfold smS; simp only [hsm]
    rw [e]
    exact ⟨h.g, h.v, h.vn, h.la, h.lp, h.top, h.nd, h.sy, h.s0, h.few⟩
  | none =>
    simp only
    by_cases hc : 200 < st.sg.nm.length ∨ nm ∈ st.sg.nm
    · rw [if_pos hc]
      refine ⟨fun e => (by cases e), fun _ => ?_⟩
      by_cases hm : nm ∈ st.sg.nm
      · -- there, of another kind
        have hn : ¬ fndB s.g.nm nm < 0 := fun e => fnd_none.1 e (by rw [hg]; exact hm)
        have hat := fnd_some hn
        obtain ⟨i, hi⟩ : ∃ i, i = (fndB s.g.nm nm).toNat := ⟨_, rfl⟩
        rw [← hi, hg] at hat
        have hsm : smD s.g nm n pred = (i, s.g) := by unfold smD; rw [if_neg hn, ← hi]
        have hi0 : 0 < i := Nat.pos_of_ne_zero fun e => by
          rw [e, h.top] at hat
          exact hne (Option.some.inj hat).symm
        have hil := (List.getElem?_eq_some_iff.1 hat).1
        obtain ⟨ak, ha⟩ : ∃ ak, st.sg.ar[i]? = some ak := ⟨_, List.getElem?_eq_getElem (by rw [h.la]; exact hil)⟩
        obtain ⟨pk0, hp⟩ : ∃ pk0, st.sg.pr[i]? = some pk0 := ⟨_, List.getElem?_eq_getElem (by rw [h.lp]; exact hil)⟩
        unfold smS
        rw [hsm]
        simp only [hg, ha, hp, Option.getD_some]
        by_cases e1 : ak = n
        · by_cases e2 : pk0 = pred
          · have := (h.sy (nm, n, pred) i hi0).2 ⟨hat, by rw [ha, e1], by rw [hp, e2]⟩
            rw [hl] at this; cases this
          · have : (pk0 != pred) = true := by simpa using e2
            rw [this]; simp
        · rw [decide_eq_false e1]; simp
      · -- too many
        have hlen : 200 < st.sg.nm.length := hc.resolve_right hm
        have hn : fndB s.g.nm nm < 0 := fnd_none.2 (by rw [hg]; exact hm)
        have hsm : (smD s.g nm n pred).1 = st.sg.nm.length := by unfold smD; rw [if_pos hn, hg]
        unfold smS
        rw [hsm]
        simp [hlen]
    · rw [if_neg hc]
      have hm : nm ∉ st.sg.nm := fun e => hc (.inr e)
      have hlen : st.sg.nm.length ≤ 200 := by
        rcases Nat.lt_or_ge 200 st.sg.nm.length with e | e
        · exact absurd (.inl e) hc
        · exact e
      have hn : fndB s.g.nm nm < 0 := fnd_none.2 (by rw [hg]; exact hm)
      have hsm : smD s.g nm n pred = (st.sg.nm.length, ⟨st.sg.nm ++ [nm], st.sg.ar ++ [n], st.sg.pr ++ [pred]⟩) := by unfold smD; rw [if_pos hn, hg]
      have hA : (st.sg.ar ++ [n])[st.sg.nm.length]? = some n := by rw [← h.la]; simp
      have hP : (st.sg.pr ++ [pred])[st.sg.nm.length]? = some pred := by rw [← h.lp]; simp
      have hb2 : (smS s nm n pred).bad = false := by
        unfold smS
        rw [hsm, hb]
        simp only [hA, hP, Option.getD_some]
        simp
        omega
      simp only
      refine ⟨fun _ => ⟨by rw [hsm], hb2, ?_⟩, fun e => by cases e⟩
      have e : smS s nm n pred = ⟨(smS s nm n pred).bad, ⟨st.sg.nm ++ [nm], st.sg.ar ++ [n], st.sg.pr ++ [pred]⟩, s.vs⟩ := by unfold smS; simp only [hsm]
      rw [e]
      have h0 : 0 < st.sg.nm.length := (List.getElem?_eq_some_iff.1 h.top).1
      refine ⟨rfl, h.v, h.vn, ?_, ?_, ?_, ?_, ?_, ?_, ?_⟩
      · show (st.sg.ar ++ [n]).length = (st.sg.nm ++ [nm]).length
        rw [List.length_append, List.length_append, h.la]; rfl
      · show (st.sg.pr ++ [pred]).length = (st.sg.nm ++ [nm]).length
        rw [List.length_append, List.length_append, h.lp]; rfl
      · show (st.sg.nm ++ [nm])[0]? = _
        rw [List.getElem?_append_left h0]; exact h.top
      · intro i j x hi hj
        have hi : (st.sg.nm ++ [nm])[i]? = some x := hi
        have hj : (st.sg.nm ++ [nm])[j]? = some x := hj
        have key : ∀ i, (st.sg.nm ++ [nm])[i]? = some x → (i < st.sg.nm.length ∧ st.sg.nm[i]? = some x) ∨ (i = st.sg.nm.length ∧ x = nm) := fun i hi => by
          rcases Nat.lt_or_ge i st.sg.nm.length with hl | hl
          · rw [List.getElem?_append_left hl] at hi; exact .inl ⟨hl, hi⟩
          · right
            rw [List.getElem?_append_right hl] at hi
            cases hd : i - st.sg.nm.length with
            | zero => rw [hd] at hi; simp at hi; exact ⟨by omega, hi.symm⟩
            | succ q => rw [hd] at hi; simp at hi
        rcases key i hi with ⟨a1, a2⟩ | ⟨a1, a2⟩ <;> rcases key j hj with ⟨b1, b2⟩ | ⟨b1, b2⟩
        · exact h.nd i j x a2 b2
        · exact absurd (b2 ▸ List.mem_of_getElem? a2) hm
        · exact absurd (a2 ▸ List.mem_of_getElem? b2) hm
        · omega
      · intro k i hi0
        show lkA (st.sy ++ [((nm, n, pred), st.sg.nm.length)]) k = some i ↔ (st.sg.nm ++ [nm])[i]? = some k.1 ∧ (st.sg.ar ++ [n])[i]? = some k.2.1 ∧ (st.sg.pr ++ [pred])[i]? = some k.2.2
        rw [lk_app _ _ _ _ hl]
        rcases Nat.lt_trichotomy i st.sg.nm.length with hil | hil | hil
        · rw [List.getElem?_append_left hil, List.getElem?_append_left (by rw [h.la]; exact hil), List.getElem?_append_left (by rw [h.lp]; exact hil)]
          by_cases e : k = (nm, n, pred)
          · rw [if_pos e]
            constructor
            · intro e2; have := Option.some.inj e2; omega
            · rintro ⟨a1, _, _⟩
              rw [e] at a1
              exact absurd (List.mem_of_getElem? a1) hm
          · rw [if_neg e]; exact h.sy k i hi0
        · subst hil
          rw [hA, hP]
          have hN : (st.sg.nm ++ [nm])[st.sg.nm.length]? = some nm := by simp
          rw [hN]
          by_cases e : k = (nm, n, pred)
          · rw [if_pos e, e]; simp
          · rw [if_neg e]
            constructor
            · intro e2
              have := (List.getElem?_eq_some_iff.1 ((h.sy k _ hi0).1 e2).1).1
              omega
            · rintro ⟨a1, a2, a3⟩
              exact absurd (by obtain ⟨k1, k2, k3⟩ := k; simp at a1 a2 a3; rw [a1, a2, a3]) e
        · rw [List.getElem?_eq_none (by rw [List.length_append]; simp; omega)]
          constructor
          · intro e2
            split at e2
            · have := Option.some.inj e2; omega
            · have := (List.getElem?_eq_some_iff.1 ((h.sy k i hi0).1 e2).1).1
              omega
          · rintro ⟨a1, _⟩; cases a1
      · intro k
        show lkA (st.sy ++ [((nm, n, pred), st.sg.nm.length)]) k ≠ some 0
        rw [lk_app _ _ _ _ hl]
        split
        · intro e; have := Option.some.inj e; omega
        · exact h.s0 k
      · show (st.sg.nm ++ [nm]).length ≤ 201
        rw [List.length_append]; simp; omega
def Good {α : Type} (x : α × Rs) (r : α × Bool × Nm) : Prop := (r.2.1 = true → x.1 = r.1 ∧ x.2.bad = false ∧ Rel x.2 r.2.2) ∧ (r.2.1 = false → x.2.bad = true)
theorem fold_rel {n : Nat} (ih : ∀ (p : Ph) (s : Rs) (st : Nm), Rel s st → s.bad = false → p.wf → ∀ r, tmF n st p = some r → Good (dtF n false s p) r) : ∀ (ps : List Ph) (s : Rs) (st : Nm) (acc : List Tm), Rel s st → s.bad = false → (∀ q ∈ ps, q.wf) → ∀ r, foldP (tmF n) st ps acc = some r → Good (acc ++ (foldD (dtF n false) s ps).1, (foldD (dtF n false) s ps).2) r
  | [], s, st, acc, hR, hb, _, r, h => by
    unfold foldP at h
    cases h
    exact ⟨fun _ => ⟨by simp [foldD], hb, hR⟩, fun e => by cases e⟩
  | p :: ps, s, st, acc, hR, hb, hw, r, h => by
    unfold foldP at h
    cases hp : tmF n st p with
    | none => rw [hp] at h; cases h
    | some q =>
      rw [hp] at h
      have hq := ih p s st hR hb (hw p (by simp)) q hp
      simp only at h
      split at h
      · rename_i hok
        obtain ⟨h1, h2, h3⟩ := hq.1 hok
        have := fold_rel ih ps (dtF n false s p).2 q.2.2 (acc ++ [q.1]) h3 h2 (fun x hx => hw x (List.mem_cons_of_mem _ hx)) r h
        unfold foldD
        rw [h1]
        simpa using this
      · rename_i hok
        cases h
        refine ⟨fun e => (by cases e), fun _ => ?_⟩
        have hb2 := hq.2 (by simpa using hok)
        have hfok := (dt_facts n false s p hR.ok).1
        unfold foldD
        exact (foldD_facts (f := dtF n false) (fun s p h => dt_facts n false s p h) ps _ hfok).2.2.2 hb2
theorem sym_rel {n : Nat} (ih : ∀ (p : Ph) (s : Rs) (st : Nm), Rel s st → s.bad = false → p.wf → ∀ r, tmF n st p = some r → Good (dtF n false s p) r) {p : Ph} {s : Rs} {st : Nm} (hR : Rel s st) (hb : s.bad = false) (hw : p.wf) (hg : isGrL p.name = false) (pred : Bool) {r : Tm × Bool × Nm} (h : symF (tmF n) st p pred = some r) : Good (dtF (n + 1) pred s p) r := by
  obtain ⟨⟨hnm, _⟩, hws⟩ := (Ph.wf_iff p).1 hw
  have hne : p.name ≠ [36, 116, 114, 117, 101] := fun e => by rw [e] at hnm; exact absurd hnm (by decide)
  obtain ⟨n1, n2⟩ := num_rel hR hb hne p.parts.length pred
  have hd : dtF (n + 1) pred s p = (⟨((smD s.g p.name p.parts.length pred).1 : Int), (foldD (dtF n false) (smS s p.name p.parts.length pred) p.parts).1⟩, (foldD (dtF n false) (smS s p.name p.parts.length pred) p.parts).2) := by conv => lhs; unfold dtF; rw [if_neg (by rw [hg]; decide)]
  rw [hd]
  unfold symF at h
  split at h
  · rename_i hok
    obtain ⟨a1, a2, a3⟩ := n1 hok
    cases hf : foldP (tmF n) (numF st ⟨p.name, p.parts.length, pred⟩).2.2 p.parts [] with
    | none => rw [hf] at h; cases h
    | some q =>
      rw [hf] at h
      have hq := fold_rel ih p.parts _ _ [] a3 a2 hws q hf
      simp only [List.nil_append] at hq
      simp only at h
      split at h
      · rename_i hok2
        cases h
        obtain ⟨b1, b2, b3⟩ := hq.1 hok2
        have b1 : (foldD (dtF n false) (smS s p.name p.parts.length pred) p.parts).1 = q.1 := b1
        refine ⟨fun _ => ⟨?_, b2, b3⟩, fun e => by cases e⟩
        simp only [a1, b1]
      · rename_i hok2
        cases h
        exact ⟨fun e => (by cases e), fun _ => hq.2 (by simpa using hok2)⟩
  · rename_i hok
    cases h
    refine ⟨fun e => (by cases e), fun _ => ?_⟩
    exact (foldD_facts (f := dtF n false) (fun s p h => dt_facts n false s p h) p.parts _ (smS_ok hR.ok _ _ _)).2.2.2 (n2 (by simpa using hok))
theorem tm_rel : ∀ (n : Nat) (p : Ph) (s : Rs) (st : Nm), Rel s st → s.bad = false → p.wf → ∀ r, tmF n st p = some r → Good (dtF n false s p) r
  | 0, p, s, st, _, _, _, r, h => by unfold tmF at h; cases h
  | n + 1, p, s, st, hR, hb, hw, r, h => by
    unfold tmF at h
    split at h
    · rename_i hg
      cases h
      obtain ⟨v1, v2⟩ := var_rel hR p.name
      have hd : dtF (n + 1) false s p = (⟨-1 - ((vrD s.vs p.name).1 : Int), []⟩, ⟨s.bad || false, s.g, (vrD s.vs p.name).2⟩) := by conv => lhs; unfold dtF; rw [if_pos hg]
      rw [hd, Bool.or_false]
      exact ⟨fun _ => ⟨by simp only [v1], hb, v2⟩, fun e => by cases e⟩
    · rename_i hg
      exact sym_rel (fun p s st => tm_rel n p s st) hR hb hw (by simpa using hg) false h
theorem foldD_g {f : Rs → Ph → Tm × Rs} : ∀ (ps : List Ph) (s : Rs), (∀ q ∈ ps, ∀ s, (f s q).1.ok ∧ (f s q).1.size ≤ q.sz) → (∀ t ∈ (foldD f s ps).1, t.ok) ∧ ((foldD f s ps).1.map Tm.size).sum ≤ (ps.map Ph.sz).sum
  | [], s, _ => ⟨fun t ht => (by cases ht), Nat.le_refl _⟩
  | p :: ps, s, h => by
    obtain ⟨h1, h2⟩ := h p (by simp) s
    obtain ⟨h3, h4⟩ := foldD_g ps (f s p).2 fun q hq => h q (List.mem_cons_of_mem _ hq)
    unfold foldD
    refine ⟨fun t ht => ?_, ?_⟩
    · rcases List.mem_cons.1 ht with rfl | ht
      · exact h1
      · exact h3 t ht
    · simp only [List.map_cons, List.sum_cons]; omega
theorem dt_g : ∀ (n : Nat) (p : Ph), p.sz ≤ 1000000 → ∀ (pred : Bool) (s : Rs), (dtF n pred s p).1.ok ∧ (dtF n pred s p).1.size ≤ p.sz
  | 0, p, hz, pred, s => by
    unfold dtF
    exact ⟨tz_ok, by rw [tz_size]; exact p.sz_pos⟩
  | n + 1, p, hz, pred, s => by
    have hzp := p.sz_eq
    unfold dtF
    split
    · refine ⟨(Tm.ok_iff _).2 ⟨by show 0 ≤ _; omega, fun t ht => by cases ht⟩, ?_⟩
      show Tm.size ⟨_, []⟩ ≤ _
      rw [leaf_size]
      exact p.sz_pos
    · obtain ⟨h1, h2⟩ := foldD_g (f := dtF n false) p.parts (smS s p.name p.parts.length pred) fun q hq s => dt_g n q (by have := sz_mem2 hq; omega) false s
      have hl := foldD_len (dtF n false) (smS s p.name p.parts.length pred) p.parts
      have hlen : p.parts.length ≤ (p.parts.map Ph.sz).sum := by
        have : ∀ l : List Ph, l.length ≤ (l.map Ph.sz).sum := by
          intro l
          induction l with
          | nil => exact Nat.le_refl _
          | cons q l ih => have := q.sz_pos; simp only [List.length_cons, List.map_cons, List.sum_cons]; omega
        exact this _
      refine ⟨(Tm.ok_iff _).2 ⟨?_, h1⟩, ?_⟩
      · show (foldD (dtF n false) (smS s p.name p.parts.length pred) p.parts).1.length ≤ _
        omega
      · show Tm.size ⟨((smD s.g p.name p.parts.length pred).1 : Int), _⟩ ≤ _
        rw [Tm.size_sym (by show ¬ ((smD s.g p.name p.parts.length pred).1 : Int) < 0; omega)]
        show 1 + (List.map Tm.size (foldD (dtF n false) (smS s p.name p.parts.length pred) p.parts).1).sum ≤ _
        omega
def dlF (n : Nat) (r : Rs) (s : Se) : Lt × Rs :=
  if s.atom then (⟨s.neg, (dtF (n + 1) true r s.a).1, tz⟩, (dtF (n + 1) true r s.a).2)
  else if (dtF n false r s.a).2.bad then (⟨s.neg, (dtF n false r s.a).1, tz⟩, (dtF n false r s.a).2)
  else (⟨s.neg, (dtF n false r s.a).1, (dtF n false (dtF n false r s.a).2 s.b).1⟩, (dtF n false (dtF n false r s.a).2 s.b).2)
theorem lit_rel {n : Nat} {se : Se} {s : Rs} {st : Nm} (hR : Rel s st) (hb : s.bad = false) (ha : se.a.wf) (hb2 : se.atom = false → se.b.wf) (hsm : se.atom = true → isGrL se.a.name = false) {r : Lt × Bool × Nm} (h : litF n st se = some r) : Good (dlF n s se) r := by
  unfold litF at h
  unfold dlF
  split at h
  · rename_i hat
    rw [if_pos hat]
    cases hs : symF (tmF n) st se.a true with
    | none => rw [hs] at h; cases h
    | some q =>
      rw [hs] at h
      have hq := sym_rel (fun p s st => tm_rel n p s st) hR hb ha (hsm hat) true hs
      cases h
      refine ⟨fun e => ?_, fun e => hq.2 e⟩
      obtain ⟨a1, a2, a3⟩ := hq.1 e
      exact ⟨by simp only [a1], a2, a3⟩
  · rename_i hat
    rw [if_neg hat]
    cases hs : tmF n st se.a with
    | none => rw [hs] at h; cases h
    | some q =>
      rw [hs] at h
      have hq := tm_rel n se.a s st hR hb ha q hs
      simp only at h
      split at h
      · rename_i hok
        obtain ⟨a1, a2, a3⟩ := hq.1 hok
        rw [if_neg (by rw [a2]; decide)]
        cases hs2 : tmF n q.2.2 se.b with
        | none => rw [hs2] at h; cases h
        | some q2 =>
          rw [hs2] at h
          have hq2 := tm_rel n se.b _ _ a3 a2 (hb2 (by simpa using hat)) q2 hs2
          cases h
          refine ⟨fun e => ?_, fun e => hq2.2 e⟩
          obtain ⟨b1, b2, b3⟩ := hq2.1 e
          exact ⟨by simp only [a1, b1], b2, b3⟩
      · rename_i hok
        have hbad := hq.2 (by simpa using hok)
        rw [if_pos hbad]
        cases h
        exact ⟨fun e => (by cases e), fun _ => hbad⟩
end Go.Proofs.YtglbohajmccehaaDoor
namespace Go.Proofs.YtglbohajmccehaaDoor
open Go.RowKit
set_option linter.unusedVariables false
set_option linter.unusedSimpArgs false
set_option maxRecDepth 10000
def okTs (T : List By) : Bool := T.all okTk
theorem okTs_app (a b : List By) : okTs (a ++ b) = (okTs a && okTs b) := by unfold okTs; rw [List.all_append]
theorem okTs_cons (x : By) (b : List By) : okTs (x :: b) = (okTk x && okTs b) := rfl
theorem okTs_com : ∀ l : List (List By), (∀ x ∈ l, okTs x = true) → okTs (comT l) = true
  | [], _ => rfl
  | x :: l, h => by
    rw [comT_cons, okTs_cons, okTs_app, h x (by simp), okTs_com l fun y hy => h y (List.mem_cons_of_mem _ hy)]
    decide
theorem sz_part {q : Ph} : ∀ {l : List Ph}, q ∈ l → q.sz ≤ (l.map Ph.sz).sum
  | x :: l, h => by
    rw [List.map_cons, List.sum_cons]
    rcases List.mem_cons.1 h with rfl | h
    · omega
    · have := sz_part h; omega
theorem okTs_tk : ∀ (k : Nat) (p : Ph), p.sz ≤ k → p.wf → okTs p.tk = true
  | 0, p, h, _ => by have := p.sz_pos; omega
  | k + 1, p, h, hw => by
    obtain ⟨⟨w1, w2⟩, w3⟩ := (Ph.wf_iff p).1 hw
    have hsz := p.sz_eq
    have hp : ∀ q ∈ p.parts, okTs q.tk = true := fun q hq => okTs_tk k q (by
      have : q.sz ≤ (p.parts.map Ph.sz).sum := sz_part hq
      omega) (w3 q hq)
    rw [Ph.tk_eq, okTs_cons]
    have h1 : okTk p.name = true := by unfold okTk; rw [w1]; rfl
    rw [h1, Bool.true_and]
    cases hps : p.parts with
    | nil => rfl
    | cons q qs =>
      rw [hps] at hp
      show okTs ([40] :: (q.tk ++ (comT (qs.map Ph.tk) ++ [[41]]))) = true
      rw [okTs_cons, okTs_app, okTs_app, hp q (by simp), okTs_com _ (fun x hx => by
        obtain ⟨y, hy, rfl⟩ := List.mem_map.1 hx
        exact hp y (List.mem_cons_of_mem _ hy))]
      decide
theorem okTs_take {T : List By} {s : By} (hs : s ≠ []) (ho : okTk s = true) (h : okTs (takeL T s).2 = true) : okTs T = true := by
  cases hb : (takeL T s).1 with
  | true => rw [takeL_yes hs hb, okTs_cons, ho, h]; rfl
  | false => rw [← (takeL_no hs hb).1]; exact h
theorem rdLL_okT {n : Nat} {t : List By} {r : Se × Bool × List By} (h : rdLL n t = some r) (hok : r.2.1 = true) (hr : okTs r.2.2 = true) : okTs t = true := by
  unfold rdLL at h
  split at h
  · cases h
  · rename_i q hq
    split at h
    · rename_i hqok
      obtain ⟨w, e1, _⟩ := (rdXL_wf n).1 1 _ q hq hqok
      refine okTs_take (s := [126]) (by simp) (by decide) ?_
      rw [e1, okTs_app, okTs_tk _ _ (Nat.le_refl _) w, Bool.true_and]
      refine okTs_take (s := [61]) (by simp) (by decide) ?_
      split at h
      · split at h
        · cases h
        · rename_i q2 hq2
          cases h
          obtain ⟨w2, e2, _⟩ := (rdXL_wf n).1 1 _ q2 hq2 hok
          rw [e2, okTs_app, okTs_tk _ _ (Nat.le_refl _) w2, Bool.true_and]
          exact hr
      · refine okTs_take (s := unlB) (by decide) (by decide) ?_
        split at h
        · split at h
          · cases h
          · rename_i q2 hq2
            cases h
            obtain ⟨w2, e2, _⟩ := (rdXL_wf n).1 1 _ q2 hq2 hok
            rw [e2, okTs_app, okTs_tk _ _ (Nat.le_refl _) w2, Bool.true_and]
            exact hr
        · cases h
          exact hr
    · cases h; cases hok
theorem rdLsL_okT {n : Nat} : ∀ {m : Nat} {t : List By} {acc : List Se} {r : List Se × Bool × List By}, rdLsL n m t acc = some r → r.2.1 = true → okTs r.2.2 = true → okTs t = true
  | 0, _, _, _, h, _, _ => by cases h
  | m + 1, t, acc, r, h, hok, hr => by
    rw [rdLsL] at h
    split at h
    · cases h
    · rename_i q hq
      split at h
      · rename_i hqok
        refine rdLL_okT hq hqok (okTs_take (s := [124]) (by simp) (by decide) ?_)
        split at h
        · exact rdLsL_okT h hok hr
        · cases h; exact hr
      · cases h; cases hok
theorem rdCL_okT {n : Nat} {t : List By} {r : List Se × Bool × List By} (h : rdCL n t = some r) (hok : r.2.1 = true) (hr : okTs r.2.2 = true) : okTs t = true := by
  unfold rdCL at h
  refine okTs_take (s := neverB) (by decide) (by decide) ?_
  split at h
  · cases h; exact hr
  · exact rdLsL_okT h hok hr
theorem rdFL_okT {n : Nat} : ∀ {m : Nat} {t : List By} {acc : List (List Se)} {r : List (List Se) × Bool}, rdFL n m t acc = some r → r.2 = true → okTs t = true
  | 0, _, _, _, h, _ => by cases h
  | m + 1, t, acc, r, h, hok => by
    rw [rdFL] at h
    split at h
    · rename_i ht
      cases t with
      | nil => rfl
      | cons x t => simp at ht
    · split at h
      · cases h
      · rename_i q hq
        split at h
        · rename_i hqok
          refine rdCL_okT hq hqok (okTs_take (s := [46]) (by simp) (by decide) ?_)
          split at h
          · exact rdFL_okT h hok
          · cases h; cases hok
        · cases h; cases hok
end Go.Proofs.YtglbohajmccehaaDoor
namespace Go.Proofs.YtglbohajmccehaaDoor
open Go.RowKit
set_option linter.unusedVariables false
set_option linter.unusedSimpArgs false
set_option maxRecDepth 100000
theorem drop_end (T : List By) {a : Nat} (h : a ≤ T.length) : (T ++ [[]]).drop a = T.drop a ++ [[]] := List.drop_append_of_le_length h
theorem hd_end (t : List By) : hd (t ++ [[]]) = hd t := by cases t <;> rfl
theorem at_hd (T : List By) {a : Nat} (h : a ≤ T.length) : (T ++ [[]])[a]? = some (hd (T.drop a)) := by
  rcases Nat.lt_or_ge a T.length with hl | hl
  · rw [List.getElem?_append_left hl, List.drop_eq_getElem_cons hl]
    exact List.getElem?_eq_getElem hl
  · have : a = T.length := by omega
    subst this
    rw [List.drop_length, List.getElem?_append_right (Nat.le_refl _)]
    simp [hd]
theorem sk_rd (T : List By) {N a : Nat} (ha : a ≤ T.length) (hN : 2 * T.length ≤ N) {q : Ph × List Ph × Bool × List By} (h : rdXL N 1 (T.drop a) none = some q) :
    (q.2.2.1 = true → ∃ m, skI (T ++ [[]]) (2 * q.1.sz) 1 a none = some (some (a + q.1.tk.length, m)) ∧ m ≤ 32 ∧ q.1.dp ≤ 32 ∧ q.1.wf ∧ q.2.2.2 = T.drop (a + q.1.tk.length) ∧ a + q.1.tk.length ≤ T.length ∧ q.1.ends ((T ++ [[]]).drop (a + q.1.tk.length)) ∧ (T ++ [[]]).drop a = q.1.tk ++ (T ++ [[]]).drop (a + q.1.tk.length)) ∧
    (q.2.2.1 = false → ∀ n r, skI (T ++ [[]]) n 1 a none = some r → skBad r = true) := by
  constructor
  · intro hok
    obtain ⟨h1, h2, h3, h4⟩ := (rdXL_wf N).1 1 _ q h hok
    have hrest : q.2.2.2 = T.drop (a + q.1.tk.length) := (drop_of (L := T) (a := a) (x := q.1.tk) (y := q.2.2.2) h2).symm
    have hlen : a + q.1.tk.length ≤ T.length := by
      have := congrArg List.length h2
      rw [List.length_drop, List.length_append] at this
      omega
    have hd1 : (T ++ [[]]).drop a = q.1.tk ++ (q.2.2.2 ++ [[]]) := by rw [drop_end T ha, h2, List.append_assoc]
    have hen : q.1.ends (q.2.2.2 ++ [[]]) := fun e1 e2 => by rw [hd_end]; exact h4 e1 e2
    have hd2 : (T ++ [[]]).drop (a + q.1.tk.length) = q.2.2.2 ++ [[]] := by rw [drop_end T hlen, ← hrest]
    refine ⟨q.1.dp, (skI_tk (T ++ [[]]) (2 * q.1.sz)).1 1 q.1 a _ h1 (Nat.le_refl _) (by omega) hen (by simp) hd1, by omega, by omega, h1, hrest, hlen, by rw [hd2]; exact hen, by rw [hd2]; exact hd1⟩
  · intro hno n r hr
    cases r with
    | none => rfl
    | some z =>
      obtain ⟨nx, m⟩ := z
      by_cases hm : 32 < m
      · exact decide_eq_true hm
      · exfalso
        obtain ⟨p, p1, p2, p3, p4⟩ := (skI_wf (T ++ [[]]) n).1 1 a nx m hr
        have hin := (sk_in T n 1 a none nx m hr).2
        rw [List.length_append] at hin
        have hnx : nx ≤ T.length := by simp at hin; omega
        rw [drop_end T ha, drop_end T hnx, ← List.append_assoc] at p3
        have p3 := List.append_cancel_right p3
        have hsz := sz_tk p.sz p (Nat.le_refl _)
        have hle : p.tk.length ≤ T.length := by
          have := congrArg List.length p3
          rw [List.length_drop, List.length_append] at this
          omega
        have hen : p.ends (T.drop nx) := fun e1 e2 => by have := p2 e1 e2; rw [drop_end T hnx, hd_end] at this; exact this
        have := (rdXL_tk N).1 1 p (T.drop nx) p1 (by omega) (by omega) hen
        rw [← p3, h] at this
        have := Option.some.inj this
        rw [this] at hno
        cases hno
theorem take_at (T : List By) {a : Nat} (h : a ≤ T.length) {x : By} (hx : x ≠ []) : (takeL (T.drop a) x).1 = decide (hd (T.drop a) = x) ∧ (hd (T.drop a) = x → (takeL (T.drop a) x).2 = T.drop (a + 1) ∧ a + 1 ≤ T.length) ∧ (hd (T.drop a) ≠ x → (takeL (T.drop a) x).2 = T.drop a) := by
  cases hd' : T.drop a with
  | nil =>
    refine ⟨?_, fun e => absurd e.symm hx, fun _ => rfl⟩
    show false = decide (([] : By) = x)
    rw [decide_eq_false (fun e => hx e.symm)]
  | cons y t =>
    have hal : a < T.length := by
      rcases Nat.lt_or_ge a T.length with h1 | h1
      · exact h1
      · rw [List.drop_eq_nil_of_le h1] at hd'; cases hd'
    have ht : T.drop (a + 1) = t := by
      rw [List.drop_eq_getElem_cons hal] at hd'
      injection hd'
    show (if y = x then (true, t) else (false, y :: t)).1 = decide (y = x) ∧ (y = x → (if y = x then (true, t) else (false, y :: t)).2 = _ ∧ _) ∧ (y ≠ x → (if y = x then (true, t) else (false, y :: t)).2 = _)
    by_cases e : y = x
    · rw [if_pos e, decide_eq_true e]
      exact ⟨rfl, fun _ => ⟨ht.symm, hal⟩, fun h => absurd e h⟩
    · rw [if_neg e, decide_eq_false e]
      exact ⟨rfl, fun h => absurd h e, fun _ => rfl⟩
def LitEnd (T : List By) (N I : Nat) (s : Rs) (se : Se) (ok : Bool) (rest : List By) (l : Lt) (s' : Rs) (I' : Nat) : Prop :=
  I' ≤ T.length ∧ ((ok = true ∧ s' = (dlF N s se).2 ∧ (s'.bad = false → l = (dlF N s se).1 ∧ T.drop I' = rest ∧ s'.vs.length ≤ s.vs.length + (I' - I) ∧ I < I' ∧ (l.a.ok ∧ l.b.ok) ∧ l.a.size + l.b.size ≤ 2 * (I' - I)) ∧ se.a.wf ∧ (se.atom = false → se.b.wf) ∧ (se.atom = true → isGrL se.a.name = false) ∧ se.a.sz + se.b.sz ≤ N) ∨ (ok = false ∧ s'.bad = true))
theorem gr_sm {n : By} (h : isGrL n = true) : isSmL n = false := by
  cases n with
  | nil => rfl
  | cons b t =>
    have h : grB b = true := h
    show smB b = false
    unfold grB at h
    unfold smB
    simp only [Bool.and_eq_true, decide_eq_true_eq] at h
    rw [Bool.and_eq_false_iff, decide_eq_false_iff_not]
    left; omega
theorem nm_sm {p : Ph} (h : p.wf) (hg : isGrL p.name = false) : isSmL p.name = true := by
  have := ((Ph.wf_iff p).1 h).1.1
  unfold isNmL at this
  rw [hg, Bool.or_false, Bool.and_eq_true] at this
  exact this.2
theorem litP_abs (T : List By) (hT : T.length ≤ 40000) (N I : Nat) (hI : I ≤ T.length) (hN : 2 * T.length ≤ N) (s : Rs) (hs0 : s.bad = false) (hok0 : s.ok) (hg0 : s.g.nm.length ≤ 10000) (hv0 : s.vs.length ≤ 50000) (r0 : Se × Bool × List By) (h : rdLL N (T.drop I) = some r0) :
    ∃ l s' I', AFunO Tryd.prog 18 (rdR (T ++ [[]]) I s) [.bp 350001 0 []] (.val (Lt.cw l)) (rdR (T ++ [[]]) I' s') ∧ LitEnd T N I s r0.1 r0.2.1 r0.2.2 l s' I' := by
  have hx := at_hd T hI
  obtain ⟨s1, s2, s3⟩ := take_at T hI (x := [126]) (by decide)
  unfold rdLL at h
  by_cases hn : hd (T.drop I) = [126]
  · have hneg : decide (hd (T.drop I) = [126]) = true := decide_eq_true hn
    rw [(s2 hn).1, s1, hneg] at h
    have hI1 : I + 1 ≤ T.length := (s2 hn).2
    cases hq : rdXL N 1 (T.drop (I + 1)) none with
    | none => rw [hq] at h; cases h
    | some q =>
    rw [hq] at h
    simp only at h
    have hsk := sk_rd T hI1 hN hq
    have hskA : ∃ n r, skI (T ++ [[]]) n 1 (I + 1) none = some r := ⟨_, sk_tells T _ 1 (I + 1) none (Nat.le_refl _) (fun _ => by rw [List.length_append]; simp; omega) (fun e => absurd rfl e)⟩
    cases hok : q.2.2.1 with
    | false =>
      rw [hok, if_neg (by decide)] at h
      cases h
      obtain ⟨n, r, hr⟩ := hskA
      exact ⟨⟨true, tz, tz⟩, ⟨true, s.g, s.vs⟩, (I + 1), litA1_abs (T ++ [[]]) (by rw [List.length_append]; simp; omega) I s hs0 _ hx hneg n r hr (hsk.2 hok n r hr), by omega, .inr ⟨rfl, rfl⟩⟩
    | true =>
      rw [hok, if_pos rfl] at h
      obtain ⟨m, k1, k2, k3, k4, k5, k6, k7, k8⟩ := hsk.1 hok
      have hsz := sz_tk q.1.sz q.1 (Nat.le_refl _)
      obtain ⟨at_, hat⟩ : ∃ at_, at_ = (I + 1) + q.1.tk.length := ⟨_, rfl⟩
      rw [← hat] at k1 k5 k6 k7 k8
      have hne : (T ++ [[]]).drop at_ ≠ [] := by rw [drop_end T k6]; simp
      have hy := at_hd T k6
      have hL' : (T ++ [[]]).length ≤ 50000 := by rw [List.length_append]; simp; omega
      rw [k5] at h
      obtain ⟨e1, e2, e3⟩ := take_at T k6 (x := [61]) (by decide)
      obtain ⟨u1, u2, u3⟩ := take_at T k6 (x := unlB) (by decide)
      have t1 := termP_abs (T ++ [[]]) hL' N q.1 false s (I + 1) _ (by omega) k4 (by omega) k7 hne k8 hok0 (by omega) (by omega)
      rw [← hat] at t1
      obtain ⟨f1, f2, f3, f4⟩ := dt_facts N false s q.1 hok0
      have za := dt_g N q.1 (by omega) false s
      have zc := dt_g (N + 1) q.1 (by omega) true s
      have hsp := q.1.sz_pos
      by_cases hy1 : hd (T.drop at_) = [61]
      · rw [e1, decide_eq_true hy1, if_pos rfl, (e2 hy1).1] at h
        have hle : at_ + 1 ≤ T.length := (e2 hy1).2
        cases hq2 : rdXL N 1 (T.drop (at_ + 1)) none with
        | none => rw [hq2] at h; cases h
        | some q2 =>
          rw [hq2] at h
          have hsk2 := sk_rd T hle hN hq2
          cases hok2 : q2.2.2.1 with
          | false =>
            cases h
            obtain ⟨n2, r2, hr2⟩ : ∃ n r, skI (T ++ [[]]) n 1 (at_ + 1) none = some r := ⟨_, sk_tells T _ 1 (at_ + 1) none (Nat.le_refl _) (fun _ => by rw [List.length_append]; simp; omega) (fun e => absurd rfl e)⟩
            exact ⟨⟨true, tz, tz⟩, ⟨true, s.g, s.vs⟩, (I + 1), litC1e_abs (T ++ [[]]) hL' I s hs0 _ hx hneg _ _ k1 at_ m rfl k2 _ hy hy1 n2 r2 hr2 (hsk2.2 hok2 n2 r2 hr2), by omega, .inr ⟨hok2, rfl⟩⟩
          | true =>
            cases h
            obtain ⟨m2, j1, j2, j3, j4, j5, j6, j7, j8⟩ := hsk2.1 hok2
            have hsz2 := sz_tk q2.1.sz q2.1 (Nat.le_refl _)
            cases hbad : (dtF N false s q.1).2.bad with
            | true =>
              have hD := litD1e_abs (T ++ [[]]) hL' I s hs0 _ hx hneg _ _ k1 at_ m rfl k2 _ hy hy1 _ _ j1 _ m2 rfl j2 _ _ t1 hbad
              have hdl : dlF N s ⟨true, false, q.1, q2.1⟩ = (⟨true, (dtF N false s q.1).1, tz⟩, (dtF N false s q.1).2) := by
                unfold dlF; rw [if_neg (by show ¬ (false = true); decide), if_pos hbad]
              refine ⟨⟨true, (dtF N false s q.1).1, tz⟩, (dtF N false s q.1).2, at_, hD, k6, .inl ⟨hok2, ?_, fun e => ?_, k4, fun _ => j4, fun e => (by cases e), by show q.1.sz + q2.1.sz ≤ N; omega⟩⟩
              · exact (congrArg Prod.snd hdl).symm
              · rw [hbad] at e; cases e
            | false =>
              have hne2 : (T ++ [[]]).drop (at_ + 1 + q2.1.tk.length) ≠ [] := by rw [drop_end T j6]; simp
              have t2 := termP_abs (T ++ [[]]) hL' N q2.1 false (dtF N false s q.1).2 (at_ + 1) _ (by omega) j4 (by omega) j7 hne2 j8 f1 (by omega) (by omega)
              obtain ⟨g1, g2, g3, g4⟩ := dt_facts N false (dtF N false s q.1).2 q2.1 f1
              have zb := dt_g N q2.1 (by omega) false (dtF N false s q.1).2
              have hE := litE1e_abs (T ++ [[]]) hL' I s hs0 _ hx hneg _ _ k1 at_ m rfl k2 _ hy hy1 _ _ j1 _ m2 rfl j2 _ _ t1 hbad _ _ _ t2
              have hdl : dlF N s ⟨true, false, q.1, q2.1⟩ = (⟨true, (dtF N false s q.1).1, (dtF N false (dtF N false s q.1).2 q2.1).1⟩, (dtF N false (dtF N false s q.1).2 q2.1).2) := by
                unfold dlF; rw [if_neg (by show ¬ (false = true); decide), if_neg (by rw [hbad]; decide)]
              refine ⟨⟨true, (dtF N false s q.1).1, (dtF N false (dtF N false s q.1).2 q2.1).1⟩, (dtF N false (dtF N false s q.1).2 q2.1).2, at_ + 1 + q2.1.tk.length, hE, j6, .inl ⟨hok2, ?_, fun e => ⟨?_, j5.symm, by omega, by omega, ⟨za.1, zb.1⟩, by show (dtF N false s q.1).1.size + (dtF N false (dtF N false s q.1).2 q2.1).1.size ≤ _; omega⟩, k4, fun _ => j4, fun e => (by cases e), by show q.1.sz + q2.1.sz ≤ N; omega⟩⟩
              · exact (congrArg Prod.snd hdl).symm
              · exact (congrArg Prod.fst hdl).symm
      · rw [e1, decide_eq_false hy1, if_neg (by decide), e3 hy1] at h
        by_cases hy2 : hd (T.drop at_) = unlB
        · rw [u1, decide_eq_true hy2, if_pos rfl, (u2 hy2).1] at h
          have hle : at_ + 1 ≤ T.length := (u2 hy2).2
          cases hq2 : rdXL N 1 (T.drop (at_ + 1)) none with
          | none => rw [hq2] at h; cases h
          | some q2 =>
            rw [hq2] at h
            have hsk2 := sk_rd T hle hN hq2
            cases hok2 : q2.2.2.1 with
            | false =>
              cases h
              obtain ⟨n2, r2, hr2⟩ : ∃ n r, skI (T ++ [[]]) n 1 (at_ + 1) none = some r := ⟨_, sk_tells T _ 1 (at_ + 1) none (Nat.le_refl _) (fun _ => by rw [List.length_append]; simp; omega) (fun e => absurd rfl e)⟩
              exact ⟨⟨true, tz, tz⟩, ⟨true, s.g, s.vs⟩, (I + 1), litC1n_abs (T ++ [[]]) hL' I s hs0 _ hx hneg _ _ k1 at_ m rfl k2 _ hy hy2 n2 r2 hr2 (hsk2.2 hok2 n2 r2 hr2), by omega, .inr ⟨hok2, rfl⟩⟩
            | true =>
              cases h
              obtain ⟨m2, j1, j2, j3, j4, j5, j6, j7, j8⟩ := hsk2.1 hok2
              have hsz2 := sz_tk q2.1.sz q2.1 (Nat.le_refl _)
              cases hbad : (dtF N false s q.1).2.bad with
              | true =>
                have hD := litD1n_abs (T ++ [[]]) hL' I s hs0 _ hx hneg _ _ k1 at_ m rfl k2 _ hy hy2 _ _ j1 _ m2 rfl j2 _ _ t1 hbad
                have hdl : dlF N s ⟨false, false, q.1, q2.1⟩ = (⟨false, (dtF N false s q.1).1, tz⟩, (dtF N false s q.1).2) := by
                  unfold dlF; rw [if_neg (by show ¬ (false = true); decide), if_pos hbad]
                refine ⟨⟨true, (dtF N false s q.1).1, tz⟩, (dtF N false s q.1).2, at_, hD, k6, .inl ⟨hok2, ?_, fun e => ?_, k4, fun _ => j4, fun e => (by cases e), by show q.1.sz + q2.1.sz ≤ N; omega⟩⟩
                · exact (congrArg Prod.snd hdl).symm
                · rw [hbad] at e; cases e
              | false =>
                have hne2 : (T ++ [[]]).drop (at_ + 1 + q2.1.tk.length) ≠ [] := by rw [drop_end T j6]; simp
                have t2 := termP_abs (T ++ [[]]) hL' N q2.1 false (dtF N false s q.1).2 (at_ + 1) _ (by omega) j4 (by omega) j7 hne2 j8 f1 (by omega) (by omega)
                obtain ⟨g1, g2, g3, g4⟩ := dt_facts N false (dtF N false s q.1).2 q2.1 f1
                have zb := dt_g N q2.1 (by omega) false (dtF N false s q.1).2
                have hE := litE1n_abs (T ++ [[]]) hL' I s hs0 _ hx hneg _ _ k1 at_ m rfl k2 _ hy hy2 _ _ j1 _ m2 rfl j2 _ _ t1 hbad _ _ _ t2
                have hdl : dlF N s ⟨false, false, q.1, q2.1⟩ = (⟨false, (dtF N false s q.1).1, (dtF N false (dtF N false s q.1).2 q2.1).1⟩, (dtF N false (dtF N false s q.1).2 q2.1).2) := by
                  unfold dlF; rw [if_neg (by show ¬ (false = true); decide), if_neg (by rw [hbad]; decide)]
                refine ⟨⟨false, (dtF N false s q.1).1, (dtF N false (dtF N false s q.1).2 q2.1).1⟩, (dtF N false (dtF N false s q.1).2 q2.1).2, at_ + 1 + q2.1.tk.length, hE, j6, .inl ⟨hok2, ?_, fun e => ⟨?_, j5.symm, by omega, by omega, ⟨za.1, zb.1⟩, by show (dtF N false s q.1).1.size + (dtF N false (dtF N false s q.1).2 q2.1).1.size ≤ _; omega⟩, k4, fun _ => j4, fun e => (by cases e), by show q.1.sz + q2.1.sz ≤ N; omega⟩⟩
                · exact (congrArg Prod.snd hdl).symm
                · exact (congrArg Prod.fst hdl).symm
        · rw [u1, decide_eq_false hy2, if_neg (by decide), u3 hy2] at h
          cases h
          have t2 := termP_abs (T ++ [[]]) hL' (N + 1) q.1 true s (I + 1) _ (by omega) k4 (by omega) k7 hne k8 hok0 (by omega) (by omega)
          rw [← hat] at t2
          have hB := litB1_abs (T ++ [[]]) hL' I s hs0 _ hx hneg _ _ k1 at_ m rfl k2 _ hy hy1 hy2 _ _ _ t2
          obtain ⟨w1, w2, w3, w4⟩ := dt_facts (N + 1) true s q.1 hok0
          by_cases hg : isGrL q.1.name = true
          · refine ⟨⟨true, (dtF (N + 1) true s q.1).1, tz⟩, (dtF (N + 1) true s q.1).2, at_, hB, k6, .inr ⟨?_, ?_⟩⟩
            · show isSmL q.1.name = false
              exact gr_sm hg
            · unfold dtF
              rw [if_pos hg]
              simp
          · have hg' : isGrL q.1.name = false := by simpa using hg
            refine ⟨⟨true, (dtF (N + 1) true s q.1).1, tz⟩, (dtF (N + 1) true s q.1).2, at_, hB, k6, .inl ⟨?_, ?_, fun _ => ⟨?_, rfl, by omega, by omega, ⟨zc.1, tz_ok⟩, by show (dtF (N + 1) true s q.1).1.size + tz.size ≤ _; rw [tz_size]; omega⟩, k4, fun e => (by cases e), fun _ => hg', by show q.1.sz + Ph.z.sz ≤ N; rw [show Ph.z.sz = 1 from by rw [Ph.sz_eq]; rfl]; omega⟩⟩
            · show isSmL q.1.name = true
              exact nm_sm k4 hg'
            · unfold dlF; rw [if_pos rfl]
            · unfold dlF; rw [if_pos rfl]
  · have hneg : decide (hd (T.drop I) = [126]) = false := decide_eq_false hn
    rw [s3 hn, s1, hneg] at h
    cases hq : rdXL N 1 (T.drop I) none with
    | none => rw [hq] at h; cases h
    | some q =>
    rw [hq] at h
    simp only at h
    have hsk := sk_rd T hI hN hq
    have hskA : ∃ n r, skI (T ++ [[]]) n 1 I none = some r := ⟨_, sk_tells T _ 1 I none (Nat.le_refl _) (fun _ => by rw [List.length_append]; simp; omega) (fun e => absurd rfl e)⟩
    cases hok : q.2.2.1 with
    | false =>
      rw [hok, if_neg (by decide)] at h
      cases h
      obtain ⟨n, r, hr⟩ := hskA
      exact ⟨⟨false, tz, tz⟩, ⟨true, s.g, s.vs⟩, I, litA0_abs (T ++ [[]]) (by rw [List.length_append]; simp; omega) I s hs0 _ hx hneg n r hr (hsk.2 hok n r hr), by omega, .inr ⟨rfl, rfl⟩⟩
    | true =>
      rw [hok, if_pos rfl] at h
      obtain ⟨m, k1, k2, k3, k4, k5, k6, k7, k8⟩ := hsk.1 hok
      have hsz := sz_tk q.1.sz q.1 (Nat.le_refl _)
      obtain ⟨at_, hat⟩ : ∃ at_, at_ = I + q.1.tk.length := ⟨_, rfl⟩
      rw [← hat] at k1 k5 k6 k7 k8
      have hne : (T ++ [[]]).drop at_ ≠ [] := by rw [drop_end T k6]; simp
      have hy := at_hd T k6
      have hL' : (T ++ [[]]).length ≤ 50000 := by rw [List.length_append]; simp; omega
      rw [k5] at h
      obtain ⟨e1, e2, e3⟩ := take_at T k6 (x := [61]) (by decide)
      obtain ⟨u1, u2, u3⟩ := take_at T k6 (x := unlB) (by decide)
      have t1 := termP_abs (T ++ [[]]) hL' N q.1 false s I _ (by omega) k4 (by omega) k7 hne k8 hok0 (by omega) (by omega)
      rw [← hat] at t1
      obtain ⟨f1, f2, f3, f4⟩ := dt_facts N false s q.1 hok0
      have za := dt_g N q.1 (by omega) false s
      have zc := dt_g (N + 1) q.1 (by omega) true s
      have hsp := q.1.sz_pos
      by_cases hy1 : hd (T.drop at_) = [61]
      · rw [e1, decide_eq_true hy1, if_pos rfl, (e2 hy1).1] at h
        have hle : at_ + 1 ≤ T.length := (e2 hy1).2
        cases hq2 : rdXL N 1 (T.drop (at_ + 1)) none with
        | none => rw [hq2] at h; cases h
        | some q2 =>
          rw [hq2] at h
          have hsk2 := sk_rd T hle hN hq2
          cases hok2 : q2.2.2.1 with
          | false =>
            cases h
            obtain ⟨n2, r2, hr2⟩ : ∃ n r, skI (T ++ [[]]) n 1 (at_ + 1) none = some r := ⟨_, sk_tells T _ 1 (at_ + 1) none (Nat.le_refl _) (fun _ => by rw [List.length_append]; simp; omega) (fun e => absurd rfl e)⟩
            exact ⟨⟨false, tz, tz⟩, ⟨true, s.g, s.vs⟩, I, litC0e_abs (T ++ [[]]) hL' I s hs0 _ hx hneg _ _ k1 at_ m rfl k2 _ hy hy1 n2 r2 hr2 (hsk2.2 hok2 n2 r2 hr2), by omega, .inr ⟨hok2, rfl⟩⟩
          | true =>
            cases h
            obtain ⟨m2, j1, j2, j3, j4, j5, j6, j7, j8⟩ := hsk2.1 hok2
            have hsz2 := sz_tk q2.1.sz q2.1 (Nat.le_refl _)
            cases hbad : (dtF N false s q.1).2.bad with
            | true =>
              have hD := litD0e_abs (T ++ [[]]) hL' I s hs0 _ hx hneg _ _ k1 at_ m rfl k2 _ hy hy1 _ _ j1 _ m2 rfl j2 _ _ t1 hbad
              have hdl : dlF N s ⟨false, false, q.1, q2.1⟩ = (⟨false, (dtF N false s q.1).1, tz⟩, (dtF N false s q.1).2) := by
                unfold dlF; rw [if_neg (by show ¬ (false = true); decide), if_pos hbad]
              refine ⟨⟨false, (dtF N false s q.1).1, tz⟩, (dtF N false s q.1).2, at_, hD, k6, .inl ⟨hok2, ?_, fun e => ?_, k4, fun _ => j4, fun e => (by cases e), by show q.1.sz + q2.1.sz ≤ N; omega⟩⟩
              · exact (congrArg Prod.snd hdl).symm
              · rw [hbad] at e; cases e
            | false =>
              have hne2 : (T ++ [[]]).drop (at_ + 1 + q2.1.tk.length) ≠ [] := by rw [drop_end T j6]; simp
              have t2 := termP_abs (T ++ [[]]) hL' N q2.1 false (dtF N false s q.1).2 (at_ + 1) _ (by omega) j4 (by omega) j7 hne2 j8 f1 (by omega) (by omega)
              obtain ⟨g1, g2, g3, g4⟩ := dt_facts N false (dtF N false s q.1).2 q2.1 f1
              have zb := dt_g N q2.1 (by omega) false (dtF N false s q.1).2
              have hE := litE0e_abs (T ++ [[]]) hL' I s hs0 _ hx hneg _ _ k1 at_ m rfl k2 _ hy hy1 _ _ j1 _ m2 rfl j2 _ _ t1 hbad _ _ _ t2
              have hdl : dlF N s ⟨false, false, q.1, q2.1⟩ = (⟨false, (dtF N false s q.1).1, (dtF N false (dtF N false s q.1).2 q2.1).1⟩, (dtF N false (dtF N false s q.1).2 q2.1).2) := by
                unfold dlF; rw [if_neg (by show ¬ (false = true); decide), if_neg (by rw [hbad]; decide)]
              refine ⟨⟨false, (dtF N false s q.1).1, (dtF N false (dtF N false s q.1).2 q2.1).1⟩, (dtF N false (dtF N false s q.1).2 q2.1).2, at_ + 1 + q2.1.tk.length, hE, j6, .inl ⟨hok2, ?_, fun e => ⟨?_, j5.symm, by omega, by omega, ⟨za.1, zb.1⟩, by show (dtF N false s q.1).1.size + (dtF N false (dtF N false s q.1).2 q2.1).1.size ≤ _; omega⟩, k4, fun _ => j4, fun e => (by cases e), by show q.1.sz + q2.1.sz ≤ N; omega⟩⟩
              · exact (congrArg Prod.snd hdl).symm
              · exact (congrArg Prod.fst hdl).symm
      · rw [e1, decide_eq_false hy1, if_neg (by decide), e3 hy1] at h
        by_cases hy2 : hd (T.drop at_) = unlB
        · rw [u1, decide_eq_true hy2, if_pos rfl, (u2 hy2).1] at h
          have hle : at_ + 1 ≤ T.length := (u2 hy2).2
          cases hq2 : rdXL N 1 (T.drop (at_ + 1)) none with
          | none => rw [hq2] at h; cases h
          | some q2 =>
            rw [hq2] at h
            have hsk2 := sk_rd T hle hN hq2
            cases hok2 : q2.2.2.1 with
            | false =>
              cases h
              obtain ⟨n2, r2, hr2⟩ : ∃ n r, skI (T ++ [[]]) n 1 (at_ + 1) none = some r := ⟨_, sk_tells T _ 1 (at_ + 1) none (Nat.le_refl _) (fun _ => by rw [List.length_append]; simp; omega) (fun e => absurd rfl e)⟩
              exact ⟨⟨false, tz, tz⟩, ⟨true, s.g, s.vs⟩, I, litC0n_abs (T ++ [[]]) hL' I s hs0 _ hx hneg _ _ k1 at_ m rfl k2 _ hy hy2 n2 r2 hr2 (hsk2.2 hok2 n2 r2 hr2), by omega, .inr ⟨hok2, rfl⟩⟩
            | true =>
              cases h
              obtain ⟨m2, j1, j2, j3, j4, j5, j6, j7, j8⟩ := hsk2.1 hok2
              have hsz2 := sz_tk q2.1.sz q2.1 (Nat.le_refl _)
              cases hbad : (dtF N false s q.1).2.bad with
              | true =>
                have hD := litD0n_abs (T ++ [[]]) hL' I s hs0 _ hx hneg _ _ k1 at_ m rfl k2 _ hy hy2 _ _ j1 _ m2 rfl j2 _ _ t1 hbad
                have hdl : dlF N s ⟨true, false, q.1, q2.1⟩ = (⟨true, (dtF N false s q.1).1, tz⟩, (dtF N false s q.1).2) := by
                  unfold dlF; rw [if_neg (by show ¬ (false = true); decide), if_pos hbad]
                refine ⟨⟨false, (dtF N false s q.1).1, tz⟩, (dtF N false s q.1).2, at_, hD, k6, .inl ⟨hok2, ?_, fun e => ?_, k4, fun _ => j4, fun e => (by cases e), by show q.1.sz + q2.1.sz ≤ N; omega⟩⟩
                · exact (congrArg Prod.snd hdl).symm
                · rw [hbad] at e; cases e
              | false =>
                have hne2 : (T ++ [[]]).drop (at_ + 1 + q2.1.tk.length) ≠ [] := by rw [drop_end T j6]; simp
                have t2 := termP_abs (T ++ [[]]) hL' N q2.1 false (dtF N false s q.1).2 (at_ + 1) _ (by omega) j4 (by omega) j7 hne2 j8 f1 (by omega) (by omega)
                obtain ⟨g1, g2, g3, g4⟩ := dt_facts N false (dtF N false s q.1).2 q2.1 f1
                have zb := dt_g N q2.1 (by omega) false (dtF N false s q.1).2
                have hE := litE0n_abs (T ++ [[]]) hL' I s hs0 _ hx hneg _ _ k1 at_ m rfl k2 _ hy hy2 _ _ j1 _ m2 rfl j2 _ _ t1 hbad _ _ _ t2
                have hdl : dlF N s ⟨true, false, q.1, q2.1⟩ = (⟨true, (dtF N false s q.1).1, (dtF N false (dtF N false s q.1).2 q2.1).1⟩, (dtF N false (dtF N false s q.1).2 q2.1).2) := by
                  unfold dlF; rw [if_neg (by show ¬ (false = true); decide), if_neg (by rw [hbad]; decide)]
                refine ⟨⟨true, (dtF N false s q.1).1, (dtF N false (dtF N false s q.1).2 q2.1).1⟩, (dtF N false (dtF N false s q.1).2 q2.1).2, at_ + 1 + q2.1.tk.length, hE, j6, .inl ⟨hok2, ?_, fun e => ⟨?_, j5.symm, by omega, by omega, ⟨za.1, zb.1⟩, by show (dtF N false s q.1).1.size + (dtF N false (dtF N false s q.1).2 q2.1).1.size ≤ _; omega⟩, k4, fun _ => j4, fun e => (by cases e), by show q.1.sz + q2.1.sz ≤ N; omega⟩⟩
                · exact (congrArg Prod.snd hdl).symm
                · exact (congrArg Prod.fst hdl).symm
        · rw [u1, decide_eq_false hy2, if_neg (by decide), u3 hy2] at h
          cases h
          have t2 := termP_abs (T ++ [[]]) hL' (N + 1) q.1 true s I _ (by omega) k4 (by omega) k7 hne k8 hok0 (by omega) (by omega)
          rw [← hat] at t2
          have hB := litB0_abs (T ++ [[]]) hL' I s hs0 _ hx hneg _ _ k1 at_ m rfl k2 _ hy hy1 hy2 _ _ _ t2
          obtain ⟨w1, w2, w3, w4⟩ := dt_facts (N + 1) true s q.1 hok0
          by_cases hg : isGrL q.1.name = true
          · refine ⟨⟨false, (dtF (N + 1) true s q.1).1, tz⟩, (dtF (N + 1) true s q.1).2, at_, hB, k6, .inr ⟨?_, ?_⟩⟩
            · show isSmL q.1.name = false
              exact gr_sm hg
            · unfold dtF
              rw [if_pos hg]
              simp
          · have hg' : isGrL q.1.name = false := by simpa using hg
            refine ⟨⟨false, (dtF (N + 1) true s q.1).1, tz⟩, (dtF (N + 1) true s q.1).2, at_, hB, k6, .inl ⟨?_, ?_, fun _ => ⟨?_, rfl, by omega, by omega, ⟨zc.1, tz_ok⟩, by show (dtF (N + 1) true s q.1).1.size + tz.size ≤ _; rw [tz_size]; omega⟩, k4, fun e => (by cases e), fun _ => hg', by show q.1.sz + Ph.z.sz ≤ N; rw [show Ph.z.sz = 1 from by rw [Ph.sz_eq]; rfl]; omega⟩⟩
            · show isSmL q.1.name = true
              exact nm_sm k4 hg'
            · unfold dlF; rw [if_pos rfl]
            · unfold dlF; rw [if_pos rfl]
end Go.Proofs.YtglbohajmccehaaDoor
namespace Go.Proofs.YtglbohajmccehaaDoor
open Go.RowKit
set_option linter.unusedVariables false
set_option linter.unusedSimpArgs false
section
variable {P : Program} {w0 : World} {U0 : UX} {nt : Nat} {s : AS}

theorem wk_nilF (k n e0 z : Nat) (hk : Nat.ble 500000 k = true) (hn : (Nat.ble 200000 n && Nat.blt n 400000) = true) (hz : Nat.blt 0 z = true) (hs : look s k = some ⟨0, .lst [], 1, 0, []⟩) (hr : noRefB s [(n, [])] = true) (hnk : noKey s n = true) : Wk w0 U0 nt s ((k, .sl n 0 0 z) :: (n, .mrow e0 z []) :: s) := by
  rintro a w ⟨D, hv, h⟩
  have hk5 := Nat.le_of_ble_eq_true hk
  have hrn := rnB hn
  have hrn' : RN n := RW.rn hrn
  unfold RW at hrn
  have hnk' : look s n = none := by
    cases e : look s n with
    | none => rfl
    | some av =>
      unfold noKey at hnk
      rw [List.all_eq_true] at hnk
      have := hnk _ (look_mem e)
      simp [Nat.beq_refl] at this
  have hnr : NoRef s n := (noRefB_spec hr (n, []) (by simp)).nr
  obtain ⟨hv', hhv⟩ : ∃ hv' : Nat → Value, hv' = fun x => if x = n then .slice none 0 0 else hv x := ⟨_, rfl⟩
  have hvn : ∀ x, x ≠ n → hv' x = hv x := fun x hx => by rw [hhv]; simp only [if_neg hx]
  have hvd : hv' n = .slice none 0 0 := by rw [hhv]; simp
  obtain ⟨s', hs'⟩ : ∃ s', s' = (k, AV.sl n 0 0 z) :: (n, AV.mrow e0 z []) :: s := ⟨_, rfl⟩
  rw [← hs']
  have hlk : ∀ x, x ≠ k → x ≠ n → look s' x = look s x := fun x h1 h2 => by rw [hs', lN (Ne.symm h1), lN (Ne.symm h2)]
  have hlkk : look s' k = some (.sl n 0 0 z) := by rw [hs', lS]
  have hlkn : look s' n = some (.mrow e0 z []) := by rw [hs', lN (by omega), lS]
  have hl : ∀ q e, Live s' q e ↔ Live s q e := fun q e => by
    unfold Live
    by_cases e1 : q = k
    · omega
    · by_cases e2 : q = n
      · subst e2
        rw [hlkn, hnk']
        constructor <;> (rintro ⟨h1, _⟩; cases h1)
      · rw [hlk q e1 e2]
  have hl2 : LiveN s' = LiveN s := by funext q; simp only [LiveN, hl]
  have hmv : ∀ {k' av v}, look s k' = some av → AVRep (Us w0 U0 D) w hv (LiveN s) av v → AVRep (Us w0 U0 D) w hv' (LiveN s) av v := fun {k' av v} h1 h2 =>
    h2.move (fun _ _ _ h1 h2 => ⟨h1, h2⟩) (fun _ h => h) fun h3 => hvn _ (hk_ne_row hrn' (hnr k' av h1).1 h3)
  refine ⟨D, hv', h.below, h.dfr, h.size, fun d av g1 g2 => ?_, fun m o av g1 g2 g3 g4 => ?_, fun m o o' av av' g1 g2 g3 g4 g5 => ?_, fun k' av g1 g2 => ?_, fun k' av g g1 g2 g3 g4 => ?_, fun k' k2 av av' g g1 g2 g3 g4 g5 g6 g7 g8 => ?_, fun k' v g1 => ?_, h.dlt⟩
  · rw [hlk d (by omega) (by omega)] at g1
    rw [hl2]
    obtain ⟨v, h1, h2⟩ := h.slot d av g1 g2
    exact ⟨v, h1, hmv g1 h2⟩
  · have hbk := bn_okey g4
    unfold oKey at hbk
    unfold BN at g4
    rw [hlk (100000 + m) (by omega) (by omega)] at g3
    rw [hl2, hvn (100000 + m) (by omega)]
    by_cases e : fKey m o = k
    · rw [e, hlkk] at g1
      cases g1
      obtain ⟨v, h1, h2, h3⟩ := h.fld m o _ (by rw [e]; exact hs) g2 g3 g4
      have hv0 : v = .slice none 0 0 := by
        obtain ⟨q1, q2⟩ : VRep (Us w0 U0 D) w (.lst []) v ∧ Tk hv (LiveN s) ⟨0, .lst [], 1, 0, []⟩ v.cells.toList := h1
        obtain ⟨mm, c, f1, f2⟩ := q2 (.inl rfl)
        simp only at f1
        rw [at_nil] at f1
        cases f1
        obtain ⟨ao, k, c, e1, _⟩ := vrep_lst.1 q1
        rw [e1] at f2 ⊢
        simpa [Value.cells, tokv] using f2
      subst hv0
      refine ⟨.slice none 0 0, ⟨hrn', ?_⟩, rfl, h3⟩
      show SlV (hv' n) 0 0 z (.slice none 0 0)
      rw [hvd]
      exact slV_all rfl (Nat.le_refl _) (.inl rfl)
    · rw [hlk _ e (by unfold fKey; omega)] at g1
      obtain ⟨v, h1, h2, h3⟩ := h.fld m o av g1 g2 g3 g4
      exact ⟨v, hmv g1 h1, h2, h3⟩
  · have conv : ∀ o (av : AV), look s' (fKey m o) = some av → ∃ av', look s (fKey m o) = some av' ∧ av'.sz = av.sz := fun o av f1 => by
      by_cases e : fKey m o = k
      · rw [e, hlkk] at f1
        cases f1
        exact ⟨⟨0, .lst [], 1, 0, []⟩, by rw [e]; exact hs, rfl⟩
      · rw [hlk _ e (by unfold fKey; omega)] at f1
        exact ⟨av, f1, rfl⟩
    obtain ⟨a1, b1, c1⟩ := conv o av g1
    obtain ⟨a2, b2, c2⟩ := conv o' av' g2
    rw [← c1]
    exact h.fdis m o o' a1 a2 b1 b2 g3 g4 g5
  · unfold oKey at g2
    rw [hl2]
    by_cases e : k' = n
    · subst e
      rw [hlkn] at g1
      cases g1
      rw [hvd]
      exact ⟨[], World.ownsRow_nil _ _ _ _, bL hz, (fun c hc => by cases hc), rfl⟩
    · rw [hlk k' (by omega) e] at g1
      rw [hvn k' e]
      exact (h.obj k' av g1 g2).move (fun _ _ _ h1 h2 => ⟨h1, h2⟩) (fun ht hl => ⟨hl, by
        unfold tokv
        rw [hvn _ (hnr k' av g1).1]⟩) (fun _ _ => rfl)
  · unfold oKey at g2
    by_cases e : k' = n
    · subst e
      rw [hvd] at g4
      cases g4
    · rw [hlk k' (by omega) e] at g1
      rw [hvn k' e] at g4 ⊢
      exact h.blk k' av g g1 g2 g3 g4
  · unfold oKey at g3 g4
    by_cases e : k' = n
    · subst e
      rw [hvd] at g8
      cases g8
    · by_cases e2 : k2 = n
      · subst e2
        rw [hvd]
        intro h9; cases h9
      · rw [hlk k' (by omega) e] at g1
        rw [hlk k2 (by omega) e2] at g2
        rw [hvn k' e] at g8
        rw [hvn k2 e2]
        exact h.disj k' k2 av av' g g1 g2 g3 g4 g5 g6 g7 g8
  · have := U0.hf k' v g1
    rw [hvn k' (by omega)]
    exact h.fix k' v g1
end
end Go.Proofs.YtglbohajmccehaaDoor
