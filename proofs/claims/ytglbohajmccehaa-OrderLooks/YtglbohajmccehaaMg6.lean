/-
  OrCom OrLw
-/
import Derived.Test.YtglbohajmccehaaMg5
namespace Go.Proofs.Ytglbohajmccehaa
open Go.RowKit
set_option linter.unusedVariables false
set_option linter.unusedSimpArgs false
set_option maxRecDepth 100000
noncomputable def orD (l : Lt) : List (Tm × Tm) := (if kb l.a l.b > 0 then [(l.a, l.b)] else []) ++ (if kb l.a l.b = -1 ∨ kb l.a l.b = 2 then [(l.b, l.a)] else [])
noncomputable def prL (p : Tm × Tm) : CV := .lst [p.1.cw, p.2.cw]
theorem int_at {x : List Int} {k : Nat} {z : Int} (h : x[k]? = some z) : (x.map CV.i)[k]? = some (.i z) := by rw [List.getElem?_map, h]; rfl
-- 
theorem sameI_abs (W : World) (x y : List Int) (hx : x.length ≤ 1000000) (hy : y.length ≤ 1000000) : AFun Try.prog W 27 [.lst (x.map CV.i), .lst (y.map CV.i)] (.val (.b (decide (x = y)))) := by
  have hsx := ints_size x
  have hsy := ints_size y
  refine afun_of (rs := [.b (decide (x = y))]) Try.func27 Try.ntmps27 rfl rfl rfl rfl ?_
  intro w U hW
  refine aS (aR ?_)
  (refine nx (aA (gN rfl) rfl rfl rfl rfl rfl) rfl ?_)
  show AWp _ _ _ _ _ _ _
  refine aS (aS (aR ?_))
  (refine nx (aM (gN rfl) rfl rfl rfl rfl rfl) rfl ?_)
  (refine nx (a_len (gN rfl) rfl rfl rfl rfl rfl rfl rfl) rfl ?_)
  (refine nx (aM (gN rfl) rfl rfl rfl rfl rfl) rfl ?_)
  (refine nx (a_len (gN rfl) rfl rfl rfl rfl rfl rfl rfl) rfl ?_)
  (refine nx (a_neq (gN rfl) rfl rfl rfl rfl rfl rfl) rfl ?_)
  show AWp _ _ _ _ _ _ _
  refine aC rfl (fun hg => ?_) (fun hg => ?_)
  · have h : ¬ ((x.length : Int) = (y.length : Int)) := by simpa using hg
    have hne : x.length ≠ y.length := by omega
    rw [decide_eq_false (fun h => hne (by rw [h]))]
    refine aS (aR ?_)
    (refine nx (aA (gN rfl) rfl rfl rfl rfl rfl) rfl ?_)
    show AWp _ _ _ _ _ _ _
    exact aT (And.intro (.inr rfl) rfl)
  · have h : ((x.length : Int) = (y.length : Int)) := by simpa using hg
    have hle : x.length = y.length := by omega
    refine aK ?_
    show AWp _ _ _ _ _ _ _
    refine aS (aS (aR ?_))
    (refine nx (aA (gN rfl) rfl rfl rfl rfl rfl) rfl ?_)
    show AWp _ _ _ _ _ _ _
    refine aB (awp_countI x.length (fun k => x.take k = y.take k) (fun k => [(0, .val (.lst (x.map CV.i))), (1, .val (.lst (y.map CV.i))), (5, .val (.i k))]) (wk_sub ⟨rfl, rfl, rfl, trivial⟩) rfl ?_)
    intro k hk hI
    refine aS (aS (aR ?_))
    (refine nx (aM (gN rfl) rfl rfl rfl rfl rfl) rfl ?_)
    (refine nx (aM (gN rfl) rfl rfl rfl rfl rfl) rfl ?_)
    (refine nx (a_len (gN rfl) rfl rfl rfl rfl rfl rfl rfl) rfl ?_)
    (refine nx (a_lss (gN rfl) rfl rfl rfl rfl rfl rfl) rfl ?_)
    show AWp _ _ _ _ _ _ _
    refine aC rfl (fun hlt => ?_) (fun hlt => ?_)
    · have hkl : k < x.length := by simpa using hlt
      obtain ⟨u, hu⟩ : ∃ u, x[k]? = some u := ⟨x[k], List.getElem?_eq_getElem hkl⟩
      obtain ⟨v, hv⟩ : ∃ v, y[k]? = some v := ⟨y[k]'(by omega), List.getElem?_eq_getElem (by omega)⟩
      have hu' := int_at hu
      have hv' := int_at hv
      refine aK ?_
      show AWp _ _ _ _ _ _ _
      refine aS (aB (aS (aD (by kernel_rfl) (by kernel_rfl) ?_)))
      (refine nx (aM (gN rfl) rfl rfl rfl rfl rfl) rfl ?_)
      (refine nx (aM (gN rfl) rfl rfl rfl rfl rfl) rfl ?_)
      (refine nx (a_index (j := k) (gN rfl) rfl rfl rfl rfl rfl rfl rfl rfl rfl (hu') rfl (hsx)) rfl ?_)
      (refine nx (a_load_ad (gN rfl) rfl rfl rfl rfl rfl rfl rfl rfl rfl) rfl ?_)
      (refine nx (aM (gN rfl) rfl rfl rfl rfl rfl) rfl ?_)
      (refine nx (aM (gN rfl) rfl rfl rfl rfl rfl) rfl ?_)
      (refine nx (a_index (j := k) (gN rfl) rfl rfl rfl rfl rfl rfl rfl rfl rfl (hv') rfl (hsy)) rfl ?_)
      (refine nx (a_load_ad (gN rfl) rfl rfl rfl rfl rfl rfl rfl rfl rfl) rfl ?_)
      (refine nx (a_neq (gN rfl) rfl rfl rfl rfl rfl rfl) rfl ?_)
      refine ⟨by kernel_rfl, ?_⟩
      show AWp _ _ _ _ _ _ _
      refine aC rfl (fun hq => ?_) (fun hq => ?_)
      · have hq : u ≠ v := by simpa using hq
        rw [decide_eq_false (fun h => hq (by rw [h, hv] at hu; cases hu; rfl))]
        refine aS (aR ?_)
        (refine nx (aA (gN rfl) rfl rfl rfl rfl rfl) rfl ?_)
        show AWp _ _ _ _ _ _ _
        exact aT (And.intro (.inr rfl) rfl)
      · have hq : u = v := by simpa using hq
        refine aK ?_
        show AWp _ _ _ _ _ _ _
        refine aR ?_
        (refine nx (aM (gN rfl) rfl rfl rfl rfl rfl) rfl ?_)
        (refine nx (a_add (gN rfl) rfl rfl rfl rfl rfl rfl (by first | omega | (simp only [List.length_map, List.length_append, List.length_cons, List.length_nil] <;> omega) | (simp <;> omega))) rfl ?_)
        (refine nx (aA (gN rfl) rfl rfl rfl rfl rfl) rfl ?_)
        refine ⟨hkl, ?_, wk_sub ⟨rfl, rfl, rfl, trivial⟩⟩
        show x.take (k + 1) = y.take (k + 1)
        rw [List.take_add_one, List.take_add_one, hI, hu, hv, hq]
    · have hkl : k = x.length := by
        have : ¬ k < x.length := by simpa using hlt
        omega
      subst hkl
      have hxy : x = y := by
        rw [List.take_length] at hI
        rw [hI, hle, List.take_length]
      rw [decide_eq_true hxy]
      refine aE ?_
      show AWp _ _ _ _ _ _ _
      refine aS (aR ?_)
      (refine nx (aA (gN rfl) rfl rfl rfl rfl rfl) rfl ?_)
      show AWp _ _ _ _ _ _ _
      exact aT (And.intro (.inr rfl) rfl)
def al1 : Lt := ⟨false, ⟨1, []⟩, ⟨0, []⟩⟩
def al2 : Lt := ⟨true, ⟨2, []⟩, ⟨0, []⟩⟩
theorem al_fit : ∀ l ∈ [al1, al2], l.fit := by
  have key : ∀ f : Int, 0 ≤ f → f ≤ 9 → (⟨f, []⟩ : Tm).fit := fun f h1 h2 => by
    refine ⟨?_, ?_, ?_⟩
    · exact leaf_rng (by omega) (by omega)
    · exact leaf_ok f
    · rw [leaf_size]; omega
  intro l hl
  rcases List.mem_cons.1 hl with rfl | hl
  · exact ⟨key 1 (by decide) (by decide), key 0 (by decide) (by decide)⟩
  · rw [List.mem_singleton] at hl
    subst hl
    exact ⟨key 2 (by decide) (by decide), key 0 (by decide) (by decide)⟩
theorem al_look : lokL [al1, al2] = [1] := by
  have h : hvK [al1, al2] 2 = (1, wtL al2) := by
    have h1 : hvK [al1, al2] 1 = (-1, 0) := by
      unfold hvK
      show (if al1.neg = true ∧ _ then _ else hvK [al1, al2] 0) = _
      rw [if_neg (by intro h; cases h.1)]; rfl
    unfold hvK
    show (if al2.neg = true ∧ (hvK [al1, al2] 1).2 < wtL al2 then _ else _) = _
    rw [h1, if_pos ⟨rfl, wtL_pos al2⟩]; rfl
  unfold lokL
  show (if (hvK [al1, al2] 2).1 ≥ 0 then _ else _) = _
  rw [h, if_pos (by decide)]
  show [(hvK [al1, al2] 2).1] = [1]
  rw [h]
theorem al_none : lokL [] = [] := rfl
-- 
theorem alive14_abs (W : World) : AFun Try.prog W 8 [] (.val (.b true)) := by
  have h1 := oLook_abs W [al1, al2] (by simp) al_fit
  have h2 := oLook_abs W [] (by simp) (fun l hl => by cases hl)
  rw [al_look] at h1
  rw [al_none] at h2
  refine afun_of (rs := [.b true]) Try.func8 Try.ntmps8 rfl rfl rfl rfl ?_
  intro w U hW
  have h1 := h1.up hW
  have h2 := h2.up hW
  refine aS (aR ?_)
  (refine nx (aA (gN rfl) rfl rfl rfl rfl rfl) rfl ?_)
  show AWp _ _ _ _ _ _ _
  refine aS (aR ?_)
  (refine nx (a_build (gN rfl) rfl rfl rfl rfl rfl rfl rfl rfl rfl rfl rfl) rfl ?_)
  (refine nx (a_build (gN rfl) rfl rfl rfl rfl rfl rfl rfl rfl rfl rfl rfl) rfl ?_)
  (refine nx (a_build (gN rfl) rfl rfl rfl rfl rfl rfl rfl rfl rfl rfl rfl) rfl ?_)
  (refine nx (a_build (gN rfl) rfl rfl rfl rfl rfl rfl rfl rfl rfl rfl rfl) rfl ?_)
  (refine nx (a_bslice (gN rfl) rfl rfl rfl rfl rfl rfl rfl rfl rfl rfl rfl rfl rfl) rfl ?_)
  (refine nx (a_call (gN rfl) rfl rfl rfl rfl rfl (h1)) rfl ?_)
  (refine nx (aA (gN rfl) rfl rfl rfl rfl rfl) rfl ?_)
  show AWp _ _ _ _ _ _ _
  refine aS (aR ?_)
  (refine nx (aM (gN rfl) rfl rfl rfl rfl rfl) rfl ?_)
  (refine nx (a_len (gN rfl) rfl rfl rfl rfl rfl rfl rfl) rfl ?_)
  (refine nx (a_eql (gN rfl) rfl rfl rfl rfl rfl rfl) rfl ?_)
  (refine nx (aM (gN rfl) rfl rfl rfl rfl rfl) rfl ?_)
  (refine nx (aM (gd_on rfl rfl rfl rfl (by first | rfl | assumption | (simp; done))) rfl rfl rfl rfl rfl) rfl ?_)
  (refine nx (a_index (j := 0) (gd_on rfl rfl rfl rfl (by first | rfl | assumption | (simp; done))) rfl rfl rfl rfl rfl rfl rfl rfl rfl (rfl) rfl (ints_size [1])) rfl ?_)
  (refine nx (a_load_ad (gd_on rfl rfl rfl rfl (by first | rfl | assumption | (simp; done))) rfl rfl rfl rfl rfl rfl rfl rfl rfl) rfl ?_)
  (refine nx (a_eql (gd_on rfl rfl rfl rfl (by first | rfl | assumption | (simp; done))) rfl rfl rfl rfl rfl rfl) rfl ?_)
  (refine ⟨_, _, _, aPt (gN rfl) rfl rfl rfl rfl rfl ?hb rfl, rfl, ?_⟩; case hb => (first | rfl | assumption | (simp; done)))
  (refine nx (aM (gN rfl) rfl rfl rfl rfl rfl) rfl ?_)
  (refine nx (a_call (gd_on rfl rfl rfl rfl (by first | rfl | assumption | (simp; done))) rfl rfl rfl rfl rfl (h2)) rfl ?_)
  (refine nx (a_len (gd_on rfl rfl rfl rfl (by first | rfl | assumption | (simp; done))) rfl rfl rfl rfl rfl rfl rfl) rfl ?_)
  (refine nx (a_eql (gd_on rfl rfl rfl rfl (by first | rfl | assumption | (simp; done))) rfl rfl rfl rfl rfl rfl) rfl ?_)
  (refine ⟨_, _, _, aPt (gN rfl) rfl rfl rfl rfl rfl ?hb rfl, rfl, ?_⟩; case hb => (first | rfl | assumption | (simp; done)))
  (refine nx (aA (gN rfl) rfl rfl rfl rfl rfl) rfl ?_)
  show AWp _ _ _ _ _ _ _
  exact aT (And.intro (.inr rfl) rfl)
end Go.Proofs.Ytglbohajmccehaa
namespace Go.Proofs.Ytglbohajmccehaa
open Go.RowKit
set_option linter.unusedVariables false
set_option linter.unusedSimpArgs false
theorem fine_fit {c : List Lt} {most : Nat} {size : Int} (h0 : 0 ≤ size) (h1 : size ≤ 60) (h : fineC c most size = true) : c.length ≤ most ∧ ∀ l ∈ c, l.fit := by
  obtain ⟨h2, h3⟩ := fineC_facts h0 h1 h
  refine ⟨h2, fun l hl => ?_⟩
  obtain ⟨⟨⟨_, a1, a2⟩, _, a3⟩, ⟨⟨_, b1, b2⟩, _, b3⟩⟩ := h3 l hl
  exact ⟨⟨a1, a2, by omega⟩, ⟨b1, b2, by omega⟩⟩
theorem mulB_not {a b : List Tm} : mulB a b = false ↔ ¬ mulP a b := by rw [← mulB_iff, Bool.not_eq_true]
theorem top_lit : ∀ (c : List Lt), c ≠ [] → ∃ x ∈ c, ∀ l ∈ c, ¬ mulP (tmsL l) (tmsL x)
  | [], h => absurd rfl h
  | x :: c, _ => by
    by_cases hc : c = []
    · subst hc
      refine ⟨x, List.mem_cons_self, fun l hl => ?_⟩
      rw [List.mem_singleton] at hl
      rw [hl]; exact mul_irr _
    · obtain ⟨y, hy, hm⟩ := top_lit c hc
      by_cases hx : mulP (tmsL x) (tmsL y)
      · refine ⟨x, List.mem_cons_self, fun l hl h => ?_⟩
        rcases List.mem_cons.1 hl with rfl | hl
        · exact mul_irr _ h
        · exact hm l hl (mul_trans h hx)
      · refine ⟨y, List.mem_cons_of_mem _ hy, fun l hl h => ?_⟩
        rcases List.mem_cons.1 hl with rfl | hl
        · exact hx h
        · exact hm l hl h
theorem lok_some (c : List Lt) : decide (((lokL c).map CV.i).length > 0) = decide ((c.map Lt.cv).length > 0) := by
  rw [List.length_map, List.length_map]
  by_cases hc : c = []
  · subst hc; rfl
  · have h1 : decide (c.length > 0) = true := decide_eq_true (List.length_pos_iff.2 hc)
    rw [h1, decide_eq_true_iff]
    unfold lokL
    split
    · simp
    · obtain ⟨x, hx, hm⟩ := top_lit c hc
      obtain ⟨k, hk, he⟩ := List.getElem_of_mem hx
      have hx2 : c[k]? = some x := by rw [List.getElem?_eq_getElem hk, he]
      have hg : gstI c (k : Int) = true := by
        rw [gstI_at hx2]
        unfold gstL
        rw [List.any_eq_false.2 fun l hl => by rw [mulB_not.2 (hm l hl)]; decide]; rfl
      unfold gsK
      rw [List.length_map]
      exact List.length_pos_of_mem (List.mem_filter.2 ⟨List.mem_range.2 hk, hg⟩)
theorem lok_len (c : List Lt) : (lokL c).length ≤ c.length + 1 := by
  unfold lokL
  split
  · simp
  · have := gsK_len c c.length; omega
end Go.Proofs.Ytglbohajmccehaa
