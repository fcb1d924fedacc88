/-
  ClWith
-/
import Derived.Test.YtglbohajmccehaaMg5
namespace Go.Proofs.Ytglbohajmccehaa
open Go.RowKit
set_option linter.unusedVariables false
set_option linter.unusedSimpArgs false
set_option maxRecDepth 100000
theorem sidL_at : ∀ {c : List Lt} {k : Nat} {l : Lt}, c[k]? = some l → (sidL c)[2 * k]? = some l.a ∧ (sidL c)[2 * k + 1]? = some l.b
  | [], k, l, h => by simp at h
  | x :: c, 0, l, h => by
    simp at h
    subst h
    exact ⟨rfl, rfl⟩
  | x :: c, k + 1, l, h => by
    have := sidL_at (c := c) (k := k) (l := l) (by simpa using h)
    have e : sidL (x :: c) = x.a :: x.b :: sidL c := rfl
    rw [e, show 2 * (k + 1) = 2 * k + 1 + 1 by omega]
    simpa using this

-- 
theorem cWith_abs (W : World) (c d : List Lt) (f : Int) (hn : c.length ≤ 1000000) (hcd : d.map Lt.neg = c.map Lt.neg) : AFun Try.prog W 46 [.lst (c.map Lt.cv), Tm.cw ⟨f, sidL d⟩] (.val (.lst (d.map Lt.cv))) := by
  have hsz := Lt.size_all c
  have hszT := Tm.size_all (sidL d)
  have hlen : d.length = c.length := by have := congrArg List.length hcd; simpa using this
  refine afun_of (rs := [.lst (d.map Lt.cv)]) Try.func46 Try.ntmps46 rfl rfl rfl rfl ?_
  intro w U hW
  refine aS (aR ?_)
  (refine nx (a_box (gN rfl) rfl rfl rfl rfl rfl) rfl ?_)
  (refine nx (aA (gN rfl) rfl rfl rfl rfl rfl) rfl ?_)
  show AWp _ _ _ _ _ _ _
  refine aS (aR ?_)
  (refine nx (aA (gN rfl) rfl rfl rfl rfl rfl) rfl ?_)
  show AWp _ _ _ _ _ _ _
  refine aS (aS (aR ?_))
  (refine nx (aM (gN rfl) rfl rfl rfl rfl rfl) rfl ?_)
  (refine nx (a_len (gN rfl) rfl rfl rfl rfl rfl rfl rfl) rfl ?_)
  (refine nx (aM (gN rfl) rfl rfl rfl rfl rfl) rfl ?_)
  show AWp _ _ _ _ _ _ _
  refine aB (awp_count c.length (fun k => [(3, .bp 3 0 []), (100003, .bx (Tm.cw ⟨f, sidL d⟩)), (5, .own (.lst ((d.take k).map Lt.cv)) 200033), (200033, .tok 35 5), (8, .val (.lst (c.map Lt.cv))), (9, .val (.i (c.map Lt.cv).length)), (10, .val (.i k))])
    ((wk_nil 5 200033 35 5 rfl rfl rfl rfl rfl rfl rfl).trans (wk_sub ⟨rfl, rfl, rfl, rfl, rfl, rfl, rfl, trivial⟩)) ?_)
  intro k hk
  refine aS (aR ?_)
  (refine nx (a_lss (gN rfl) rfl rfl rfl rfl rfl rfl) rfl ?_)
  show AWp _ _ _ _ _ _ _
  refine aS (aC rfl (fun hlt => ?_) (fun hlt => ?_))
  · have hkl : k < c.length := by simpa using hlt
    obtain ⟨x, hx⟩ : ∃ x, c[k]? = some x := ⟨c[k], List.getElem?_eq_getElem hkl⟩
    obtain ⟨y, hy⟩ : ∃ y, d[k]? = some y := ⟨d[k], List.getElem?_eq_getElem (by omega)⟩
    have hneg : x.neg = y.neg := by
      have := congrArg (fun l => l[k]?) hcd
      simp only [List.getElem?_map, hx, hy, Option.map_some] at this
      injection this with this
      exact this.symm
    obtain ⟨n1, a1, b1⟩ := x
    simp only at hneg
    subst hneg
    have hx' := Lt.map_at hx
    obtain ⟨ha, hb⟩ := sidL_at hy
    have ha' := Tm.map_at ha
    have hb' := Tm.map_at hb
    have hsz2 : ∀ z ∈ (d.take k).map Lt.cv, z.size = 5 := Lt.size_all _
    have hl3 : ((d.take k).map Lt.cv).length ≤ 1000000 := by rw [List.length_map, List.length_take]; omega
    refine aK ?_
    show AWp _ _ _ _ _ _ _
    refine aS (aB (aS (aR ?_)))
    (refine nx (aM (gN rfl) rfl rfl rfl rfl rfl) rfl ?_)
    (refine nx (a_index (j := k) (gN rfl) rfl rfl rfl rfl rfl rfl rfl rfl rfl (hx') rfl (hsz)) rfl ?_)
    (refine nx (a_load_ad (gN rfl) rfl rfl rfl rfl rfl rfl rfl rfl rfl) rfl ?_)
    (refine nx (a_alloc (gN rfl) rfl rfl rfl rfl rfl rfl rfl rfl rfl rfl) rfl ?_)
    (refine nx (aA (gN rfl) rfl rfl rfl rfl rfl) rfl ?_)
    (refine nx (aSt (gN rfl) rfl rfl rfl rfl rfl rfl rfl rfl rfl rfl) rfl ?_)
    show AWp _ _ _ _ _ _ _
    refine aD (by kernel_rfl) (by kernel_rfl) ?_
    (refine nx (aM (gN rfl) rfl rfl rfl rfl rfl) rfl ?_)
    (refine nx (aF (gN rfl) rfl rfl rfl rfl rfl rfl rfl rfl rfl) rfl ?_)
    (refine nx (aLb (gN rfl) rfl rfl rfl rfl rfl rfl rfl rfl rfl rfl rfl rfl) rfl ?_)
    (refine nx (aF (gN rfl) rfl rfl rfl rfl rfl rfl rfl rfl rfl) rfl ?_)
    (refine nx (aLb (gN rfl) rfl rfl rfl rfl rfl rfl rfl rfl rfl rfl rfl rfl) rfl ?_)
    (refine nx (aM (gN rfl) rfl rfl rfl rfl rfl) rfl ?_)
    (refine nx (a_mul (gN rfl) rfl rfl rfl rfl rfl rfl (by first | omega | (simp only [List.length_map, List.length_append, List.length_cons, List.length_nil] <;> omega) | (simp <;> omega))) rfl ?_)
    (refine nx (a_index (j := (2 * k)) (gN rfl) rfl rfl rfl rfl rfl rfl rfl rfl rfl (ha') rfl (hszT)) rfl ?_)
    (refine nx (a_load_ad (gN rfl) rfl rfl rfl rfl rfl rfl rfl rfl rfl) rfl ?_)
    (refine nx (aF (gN rfl) rfl rfl rfl rfl rfl rfl rfl rfl rfl) rfl ?_)
    (refine nx (aLb (gN rfl) rfl rfl rfl rfl rfl rfl rfl rfl rfl rfl rfl rfl) rfl ?_)
    (refine nx (aM (gN rfl) rfl rfl rfl rfl rfl) rfl ?_)
    (refine nx (a_mul (gN rfl) rfl rfl rfl rfl rfl rfl (by first | omega | (simp only [List.length_map, List.length_append, List.length_cons, List.length_nil] <;> omega) | (simp <;> omega))) rfl ?_)
    (refine nx (a_add (gN rfl) rfl rfl rfl rfl rfl rfl (by first | omega | (simp only [List.length_map, List.length_append, List.length_cons, List.length_nil] <;> omega) | (simp <;> omega))) rfl ?_)
    (refine nx (a_index (j := (2 * k + 1)) (gN rfl) rfl rfl rfl rfl rfl rfl rfl rfl rfl (hb') rfl (hszT)) rfl ?_)
    (refine nx (a_load_ad (gN rfl) rfl rfl rfl rfl rfl rfl rfl rfl rfl) rfl ?_)
    (refine nx (a_build (gN rfl) rfl rfl rfl rfl rfl rfl rfl rfl rfl rfl rfl) rfl ?_)
    (refine nx (a_bslice (gN rfl) rfl rfl rfl rfl rfl rfl rfl rfl rfl rfl rfl rfl rfl) rfl ?_)
    (refine nx (a_app (gN rfl) rfl rfl rfl rfl rfl rfl rfl rfl rfl rfl rfl rfl rfl rfl rfl (by first | assumption | exact sZ rfl | exact Tm.size_all _ | exact Bd.size_all _ | exact ints_size _ | exact bys_size _ | exact Lt.size_all _) (by first | assumption | exact sZ rfl | exact Tm.size_all _ | exact Bd.size_all _ | exact ints_size _ | exact bys_size _ | exact Lt.size_all _) (by first | omega | (simp only [List.length_map, List.length_append, List.length_cons, List.length_nil] <;> omega) | (simp <;> omega))) rfl ?_)
    (refine nx (aA (gN rfl) rfl rfl rfl rfl rfl) rfl ?_)
    refine ⟨by kernel_rfl, ?_⟩
    show AWp _ _ _ _ _ _ _
    refine aR ?_
    (refine nx (a_add (gN rfl) rfl rfl rfl rfl rfl rfl (by first | omega | (simp only [List.length_map, List.length_append, List.length_cons, List.length_nil] <;> omega) | (simp <;> omega))) rfl ?_)
    (refine nx (aM (gN rfl) rfl rfl rfl rfl rfl) rfl ?_)
    refine ⟨hkl, Wk.trans (wk_sub (s' := [(3, .bp 3 0 []), (100003, .bx (Tm.cw ⟨f, sidL d⟩)), (5, .own (.lst ((d.take (k + 1)).map Lt.cv)) 300033), (300033, .tok 35 5), (8, .val (.lst (c.map Lt.cv))), (9, .val (.i (c.map Lt.cv).length)), (10, .val (.i ((k + 1 : Nat) : Int)))]) ⟨rfl, rfl, ?_, rfl, rfl, rfl, rfl, trivial⟩) (wk_ren 300033 200033 rfl rfl rfl rfl)⟩
    rw [List.take_add_one, hy]
    simp only [Option.toList_some, List.map_append, List.map_cons, List.map_nil]
    rfl
  · have hkl : k = d.length := by
      have : ¬ k < c.length := by simpa using hlt
      omega
    subst hkl
    rw [List.take_length]
    refine aE ?_
    show AWp _ _ _ _ _ _ _
    refine aS (aR ?_)
    (refine nx (aM (gN rfl) rfl rfl rfl rfl rfl) rfl ?_)
    (refine nx (aA (gN rfl) rfl rfl rfl rfl rfl) rfl ?_)
    show AWp _ _ _ _ _ _ _
    exact aT (And.intro (.inr rfl) rfl)

def Lt.rep (img : Int → Tm) (l : Lt) : Lt := ⟨l.neg, repT img l.a, repT img l.b⟩
theorem sidL_rep (img : Int → Tm) : ∀ c : List Lt, (sidL c).map (repT img) = sidL (c.map (Lt.rep img))
  | [] => rfl
  | l :: c => by
    show repT img l.a :: repT img l.b :: (sidL c).map (repT img) = _
    rw [sidL_rep img c]
    rfl
theorem rep_sides (img : Int → Tm) (c : List Lt) : repT img ⟨0, sidL c⟩ = ⟨0, sidL (c.map (Lt.rep img))⟩ := by
  rw [repT_sym (show ¬ (0 : Int) < 0 by decide), sidL_rep]
theorem rep_neg (img : Int → Tm) (c : List Lt) : (c.map (Lt.rep img)).map Lt.neg = c.map Lt.neg := by
  rw [List.map_map]; rfl

-- 
theorem cApply_abs (W : World) (L : List Bd) (c : List Lt) (hn : c.length ≤ 1000000) (hl : L.length ≤ 1000000000) (hb : bdsOk L) (hr : (⟨0, sidL c⟩ : Tm).rng) (hok : (⟨0, sidL c⟩ : Tm).ok) : AFun Try.prog W 30 [.lst (L.map Bd.cv), .lst (c.map Lt.cv)] (.val (.lst ((c.map (Lt.rep (imgB L))).map Lt.cv))) := by
  have h2 := fun w => applyG_abs w L ⟨0, sidL c⟩ hl hb hr hok
  rw [rep_sides] at h2
  refine afun_of (rs := [.lst ((c.map (Lt.rep (imgB L))).map Lt.cv)]) Try.func30 Try.ntmps30 rfl rfl rfl rfl ?_
  intro w U hW
  refine aS (aR ?_)
  (refine nx (aA (gN rfl) rfl rfl rfl rfl rfl) rfl ?_)
  show AWp _ _ _ _ _ _ _
  refine aS (aR ?_)
  (refine nx (aM (gN rfl) rfl rfl rfl rfl rfl) rfl ?_)
  (refine nx (aM (gN rfl) rfl rfl rfl rfl rfl) rfl ?_)
  (refine nx (aM (gN rfl) rfl rfl rfl rfl rfl) rfl ?_)
  (refine nx (a_call (gN rfl) rfl rfl rfl rfl rfl (cSides_abs w c hn)) rfl ?_)
  (refine nx (a_call (gN rfl) rfl rfl rfl rfl rfl (h2 w)) rfl ?_)
  (refine nx (a_call (gN rfl) rfl rfl rfl rfl rfl (cWith_abs w c _ 0 hn (rep_neg _ c))) rfl ?_)
  (refine nx (aA (gN rfl) rfl rfl rfl rfl rfl) rfl ?_)
  show AWp _ _ _ _ _ _ _
  exact aT (And.intro (.inr rfl) rfl)
end Go.Proofs.Ytglbohajmccehaa
