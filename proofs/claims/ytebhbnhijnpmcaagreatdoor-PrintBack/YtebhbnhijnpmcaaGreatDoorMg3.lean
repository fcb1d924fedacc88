/-
  RfSame RfLess RfFlat RfVars AbOf SbVnt SbRen ClMath PsNm AbRoom AbBox AbIter AbRange AbMark PsTok AbMapR AbEnds PsNames PsRead
-/
import Derived.Test.YtebhbnhijnpmcaaGreatDoorMg2
import Derived.Test.YtebhbnhijnpmcaaGreatDoorPsShelf
import Derived.Lib.IndexLaws
import Derived.Maps.RangeRun
namespace Go.Proofs.YtebhbnhijnpmcaaGreatDoor
open Go.RowKit
set_option linter.unusedVariables false
set_option linter.unusedSimpArgs false
set_option maxRecDepth 100000
theorem same_f {a b : Tm} (h : sameT a b = true) : a.f = b.f := by
  have := (sameT_iff a b).1 h
  rw [← Tm.strip_f, this, Tm.strip_f]
theorem same_fne {a b : Tm} (h : a.f ≠ b.f) : sameT a b = false := by
  cases hs : sameT a b with
  | false => rfl
  | true => exact absurd (same_f hs) h
theorem same_neg {a b : Tm} (h : a.f = b.f) (hf : a.f < 0) : sameT a b = true := by
  rw [sameT_iff, Tm.strip_eq, Tm.strip_eq, Tm.ps_of_var hf, Tm.ps_of_var (by omega), h]
theorem same_sym {a b : Tm} (h : a.f = b.f) (hf : ¬ a.f < 0) : sameT a b = true ↔ a.l.map Tm.strip = b.l.map Tm.strip := by
  rw [sameT_iff, Tm.strip_eq, Tm.strip_eq, Tm.ps_of_sym (by omega), Tm.ps_of_sym (by omega), h]
  simp
theorem same_lne {a b : Tm} (hf : ¬ a.f < 0) (hl : a.l.length ≠ b.l.length) : sameT a b = false := by
  cases hs : sameT a b with
  | false => rfl
  | true =>
    have := congrArg List.length ((same_sym (same_f hs) hf).1 hs)
    simp at this
    exact absurd this hl
theorem same_at {a b : Tm} (hf : ¬ a.f < 0) {i : Nat} {x y : Tm} (hx : a.l[i]? = some x) (hy : b.l[i]? = some y) (h : sameT x y = false) : sameT a b = false := by
  cases hs : sameT a b with
  | false => rfl
  | true =>
    have := congrArg (fun l => l[i]?) ((same_sym (same_f hs) hf).1 hs)
    simp only [List.getElem?_map, hx, hy, Option.map_some, Option.some.injEq] at this
    rw [(sameT_iff x y).2 this] at h
    cases h
theorem same_all {a b : Tm} (h : a.f = b.f) (hf : ¬ a.f < 0) (hl : a.l.length = b.l.length) (hi : ∀ i x y, i < a.l.length → a.l[i]? = some x → b.l[i]? = some y → sameT x y = true) : sameT a b = true := by
  rw [same_sym h hf]
  apply List.ext_getElem?
  intro i
  rw [List.getElem?_map, List.getElem?_map]
  by_cases hil : i < a.l.length
  · have hx := List.getElem?_eq_getElem hil
    have hy := List.getElem?_eq_getElem (l := b.l) (i := i) (by omega)
    rw [hx, hy]
    exact congrArg some ((sameT_iff _ _).1 (hi i _ _ hil hx hy))
  · rw [List.getElem?_eq_none (by omega), List.getElem?_eq_none (by omega)]

-- 
set_option maxHeartbeats 1000000 in
theorem refSame_abs (W : World) : ∀ (a b : Tm), a.ok → b.ok → AFun Tryz.prog W 9 [a.cw, b.cw] (.val (.b (sameT a b))) := by
  intro a
  induction a using Tm.ind with
  | h f l ih =>
  intro b hoa hob
  obtain ⟨hla, hoa⟩ := (Tm.ok_iff _).1 hoa
  obtain ⟨hlb, hob⟩ := (Tm.ok_iff _).1 hob
  simp only at hla hoa
  have hsz := Tm.size_all l
  have hsz2 := Tm.size_all b.l
  refine afun_of (rs := [.b (sameT ⟨f, l⟩ b)]) Tryz.func9 Tryz.ntmps9 rfl rfl rfl rfl ?_
  intro w U hW
  refine aS (aR ?_)
  (refine nx (a_box (gN rfl) rfl rfl rfl rfl rfl) rfl ?_)
  (refine nx (a_box (gN rfl) rfl rfl rfl rfl rfl) rfl ?_)
  (refine nx (aA (gN rfl) rfl rfl rfl rfl rfl) rfl ?_)
  show AWp _ _ _ _ _ _ _
  refine aS (aS (aR ?_))
  (refine nx (aF (gN rfl) rfl rfl rfl rfl rfl rfl rfl rfl rfl) rfl ?_)
  (refine nx (aLb (gN rfl) rfl rfl rfl rfl rfl rfl rfl rfl rfl rfl rfl rfl) rfl ?_)
  (refine nx (aF (gN rfl) rfl rfl rfl rfl rfl rfl rfl rfl rfl) rfl ?_)
  (refine nx (aLb (gN rfl) rfl rfl rfl rfl rfl rfl rfl rfl rfl rfl rfl rfl) rfl ?_)
  (refine nx (a_neq (gN rfl) rfl rfl rfl rfl rfl rfl) rfl ?_)
  show AWp _ _ _ _ _ _ _
  refine aC rfl (fun hc => ?_) (fun hc => aK ?_)
  · have hne : f ≠ b.f := by simpa using hc
    rw [same_fne (a := ⟨f, l⟩) hne]
    refine aS (aR ?_)
    (refine nx (aA (gN rfl) rfl rfl rfl rfl rfl) rfl ?_)
    show AWp _ _ _ _ _ _ _
    exact aT (And.intro (.inr rfl) rfl)
  have hfe : f = b.f := by simpa using hc
  clear hc
  show AWp _ _ _ _ _ _ _
  refine aS (aS (aR ?_))
  (refine nx (aF (gN rfl) rfl rfl rfl rfl rfl rfl rfl rfl rfl) rfl ?_)
  (refine nx (aLb (gN rfl) rfl rfl rfl rfl rfl rfl rfl rfl rfl rfl rfl rfl) rfl ?_)
  (refine nx (a_lss (gN rfl) rfl rfl rfl rfl rfl rfl) rfl ?_)
  show AWp _ _ _ _ _ _ _
  refine aC rfl (fun hc => ?_) (fun hc => aK ?_)
  · have hneg : f < 0 := by simpa using hc
    rw [same_neg (a := ⟨f, l⟩) hfe hneg]
    refine aS (aR ?_)
    (refine nx (aA (gN rfl) rfl rfl rfl rfl rfl) rfl ?_)
    show AWp _ _ _ _ _ _ _
    exact aT (And.intro (.inr rfl) rfl)
  have hnn : ¬ f < 0 := by simpa using hc
  clear hc
  show AWp _ _ _ _ _ _ _
  refine aS (aS (aR ?_))
  (refine nx (aF (gN rfl) rfl rfl rfl rfl rfl rfl rfl rfl rfl) rfl ?_)
  (refine nx (aLb (gN rfl) rfl rfl rfl rfl rfl rfl rfl rfl rfl rfl rfl rfl) rfl ?_)
  (refine nx (a_len (gN rfl) rfl rfl rfl rfl rfl rfl rfl) rfl ?_)
  (refine nx (aF (gN rfl) rfl rfl rfl rfl rfl rfl rfl rfl rfl) rfl ?_)
  (refine nx (aLb (gN rfl) rfl rfl rfl rfl rfl rfl rfl rfl rfl rfl rfl rfl) rfl ?_)
  (refine nx (a_len (gN rfl) rfl rfl rfl rfl rfl rfl rfl) rfl ?_)
  (refine nx (a_neq (gN rfl) rfl rfl rfl rfl rfl rfl) rfl ?_)
  show AWp _ _ _ _ _ _ _
  refine aC rfl (fun hc => ?_) (fun hc => aK ?_)
  · have hne : l.length ≠ b.l.length := by
      simp only [List.length_map, decide_eq_true_eq] at hc
      omega
    rw [same_lne (a := ⟨f, l⟩) hnn hne]
    refine aS (aR ?_)
    (refine nx (aA (gN rfl) rfl rfl rfl rfl rfl) rfl ?_)
    show AWp _ _ _ _ _ _ _
    exact aT (And.intro (.inr rfl) rfl)
  have hle : l.length = b.l.length := by
    simp only [List.length_map, decide_eq_false_iff_not, ne_eq, Decidable.not_not] at hc
    omega
  clear hc
  show AWp _ _ _ _ _ _ _
  refine aS (aS (aR ?_))
  (refine nx (aA (gN rfl) rfl rfl rfl rfl rfl) rfl ?_)
  show AWp _ _ _ _ _ _ _
  refine aB (awp_countI l.length (fun k => ∀ i x y, i < k → l[i]? = some x → b.l[i]? = some y → sameT x y = true) (fun k => [(2, .bp 2 0 []), (100002, .bx (Tm.cw ⟨f, l⟩)), (3, .bp 3 0 []), (100003, .bx b.cw), (5, .val (.i k))]) (wk_sub ⟨rfl, rfl, rfl, rfl, rfl, trivial⟩) (by omega) ?_)
  intro k hk hI
  refine aS (aS (aR ?_))
  (refine nx (aM (gN rfl) rfl rfl rfl rfl rfl) rfl ?_)
  (refine nx (aF (gN rfl) rfl rfl rfl rfl rfl rfl rfl rfl rfl) rfl ?_)
  (refine nx (aLb (gN rfl) rfl rfl rfl rfl rfl rfl rfl rfl rfl rfl rfl rfl) rfl ?_)
  (refine nx (a_len (gN rfl) rfl rfl rfl rfl rfl rfl rfl) rfl ?_)
  (refine nx (a_lss (gN rfl) rfl rfl rfl rfl rfl rfl) rfl ?_)
  show AWp _ _ _ _ _ _ _
  refine aC rfl (fun hc => aK ?_) (fun hc => aE ?_)
  · have hkl : k < l.length := by
      simp only [List.length_map, decide_eq_true_eq] at hc
      omega
    clear hc
    obtain ⟨x, hx⟩ : ∃ x, l[k]? = some x := ⟨l[k], List.getElem?_eq_getElem hkl⟩
    obtain ⟨y, hy⟩ : ∃ y, b.l[k]? = some y := ⟨b.l[k]'(by omega), List.getElem?_eq_getElem (by omega)⟩
    have hx' := Tm.map_at hx
    have hy' := Tm.map_at hy
    have hxm := List.mem_of_getElem? hx
    have hym := List.mem_of_getElem? hy
    show AWp _ _ _ _ _ _ _
    refine aS (aB (aS (aD (by kernel_rfl) (by kernel_rfl) ?_)))
    (refine nx (aF (gN rfl) rfl rfl rfl rfl rfl rfl rfl rfl rfl) rfl ?_)
    (refine nx (aLb (gN rfl) rfl rfl rfl rfl rfl rfl rfl rfl rfl rfl rfl rfl) rfl ?_)
    (refine nx (aM (gN rfl) rfl rfl rfl rfl rfl) rfl ?_)
    (refine nx (a_index (gN rfl) rfl rfl rfl rfl rfl rfl rfl rfl rfl (by assumption) rfl (by first | assumption | exact sZ rfl | exact Tm.size_all _ | exact Bd.size_all _ | exact ints_size _ | exact bys_size _ | exact Lt.size_all _)) rfl ?_)
    (refine nx (a_load_ad (gN rfl) rfl rfl rfl rfl rfl rfl rfl rfl rfl) rfl ?_)
    (refine nx (aF (gN rfl) rfl rfl rfl rfl rfl rfl rfl rfl rfl) rfl ?_)
    (refine nx (aLb (gN rfl) rfl rfl rfl rfl rfl rfl rfl rfl rfl rfl rfl rfl) rfl ?_)
    (refine nx (aM (gN rfl) rfl rfl rfl rfl rfl) rfl ?_)
    (refine nx (a_index (gN rfl) rfl rfl rfl rfl rfl rfl rfl rfl rfl (by assumption) rfl (by first | assumption | exact sZ rfl | exact Tm.size_all _ | exact Bd.size_all _ | exact ints_size _ | exact bys_size _ | exact Lt.size_all _)) rfl ?_)
    (refine nx (a_load_ad (gN rfl) rfl rfl rfl rfl rfl rfl rfl rfl rfl) rfl ?_)
    (refine nx (a_call (gN rfl) rfl rfl rfl rfl rfl ((ih x hxm y (hoa x hxm) (hob y hym)).up hW)) rfl ?_)
    (refine nx (a_not (gN rfl) rfl rfl rfl rfl rfl) rfl ?_)
    refine ⟨by kernel_rfl, ?_⟩
    show AWp _ _ _ _ _ _ _
    refine aC rfl (fun hc => ?_) (fun hc => aK ?_)
    · have hs : sameT x y = false := by simpa using hc
      rw [same_at (a := ⟨f, l⟩) hnn hx hy hs]
      refine aS (aR ?_)
      (refine nx (aA (gN rfl) rfl rfl rfl rfl rfl) rfl ?_)
      show AWp _ _ _ _ _ _ _
      exact aT (And.intro (.inr rfl) rfl)
    have hs : sameT x y = true := by simpa using hc
    clear hc
    show AWp _ _ _ _ _ _ _
    refine aR ?_
    (refine nx (aM (gN rfl) rfl rfl rfl rfl rfl) rfl ?_)
    (first | (refine nx (a_add (gN rfl) rfl rfl rfl rfl rfl rfl (by first | omega | (simp only [List.length_map, List.length_append, List.length_cons, List.length_nil] <;> omega) | (simp <;> omega))) rfl ?_) | (refine nx (a_sadd (gN rfl) rfl rfl rfl rfl rfl rfl (by first | omega | (simp only [List.length_map, List.length_append, List.length_cons, List.length_nil] <;> omega) | (simp <;> omega))) (by first | rfl | kernel_rfl) ?_))
    (refine nx (aA (gN rfl) rfl rfl rfl rfl rfl) rfl ?_)
    refine ⟨hkl, fun i x' y' hi h1 h2 => ?_, wk_sub ⟨rfl, rfl, rfl, rfl, rfl, trivial⟩⟩
    rcases Nat.lt_or_ge i k with h | h
    · exact hI i x' y' h h1 h2
    · obtain rfl : i = k := by omega
      rw [hx] at h1; rw [hy] at h2
      cases h1; cases h2
      exact hs
  · have hkl : k = l.length := by
      simp only [List.length_map, decide_eq_false_iff_not] at hc
      omega
    subst hkl
    rw [same_all (a := ⟨f, l⟩) hfe hnn hle hI]
    show AWp _ _ _ _ _ _ _
    refine aS (aR ?_)
    (refine nx (aA (gN rfl) rfl rfl rfl rfl rfl) rfl ?_)
    show AWp _ _ _ _ _ _ _
    exact aT (And.intro (.inr rfl) rfl)

-- 
set_option maxHeartbeats 1000000 in
theorem to_abs (W : World) : ∀ (t : Tm), t.ok → AFun Tryz.prog W 21 [t.cw] (.val t.strip.cw) := by
  intro t
  induction t using Tm.ind with
  | h f l ih =>
  intro hok
  obtain ⟨hl, hok⟩ := (Tm.ok_iff _).1 hok
  simp only at hl hok
  have hsz := Tm.size_all l
  refine afun_of (rs := [(Tm.strip ⟨f, l⟩).cw]) Tryz.func21 Tryz.ntmps21 rfl rfl rfl rfl ?_
  intro w U hW
  refine aS (aR ?_)
  (refine nx (a_box (gN rfl) rfl rfl rfl rfl rfl) rfl ?_)
  (refine nx (a_alloc (gN rfl) rfl rfl rfl rfl rfl rfl rfl rfl rfl rfl) rfl ?_)
  show AWp _ _ _ _ _ _ _
  refine aS (aR ?_)
  (refine nx (aF (gN rfl) rfl rfl rfl rfl rfl rfl rfl rfl rfl) rfl ?_)
  (refine nx (aLb (gN rfl) rfl rfl rfl rfl rfl rfl rfl rfl rfl rfl rfl rfl) rfl ?_)
  (refine nx (a_build (gN rfl) rfl rfl rfl rfl rfl rfl rfl rfl rfl rfl rfl) rfl ?_)
  (refine nx (a_alloc (gN rfl) rfl rfl rfl rfl rfl rfl rfl rfl rfl rfl) rfl ?_)
  (refine nx (aSt (gN rfl) rfl rfl rfl rfl rfl rfl rfl rfl rfl rfl) rfl ?_)
  show AWp _ _ _ _ _ _ _
  refine aS (aS (aR ?_))
  (refine nx (aA (gN rfl) rfl rfl rfl rfl rfl) rfl ?_)
  show AWp _ _ _ _ _ _ _
  by_cases hf : f < 0
  · have hg : decide (f ≥ 0) = false := by simpa using hf
    rw [show (Tm.strip ⟨f, l⟩) = ⟨f, []⟩ by rw [Tm.strip_eq, Tm.ps_of_var (t := ⟨f, l⟩) hf]; rfl]
    refine aB (awp_count 0 (fun k => [(1, .bp 1 0 []), (100001, .bx (Tm.cw ⟨f, l⟩)), (2, .bp 2 0 []), (100002, ⟨5, .row [.i 0, .lst []], 1, 0, [1]⟩), (3, .bp 3 0 []), (100003, ⟨5, .row [.i f, .lst []], 1, 0, [1]⟩), (4, .val (.i k))]) (wk_sub ⟨rfl, rfl, rfl, rfl, rfl, rfl, rfl, trivial⟩) ?_)
    intro k hk
    refine aS (aS (aR ?_))
    (refine nx (aF (gN rfl) rfl rfl rfl rfl rfl rfl rfl rfl rfl) rfl ?_)
    (refine nx (aLb (gN rfl) rfl rfl rfl rfl rfl rfl rfl rfl rfl rfl rfl rfl) rfl ?_)
    (refine nx (a_geq (gN rfl) rfl rfl rfl rfl rfl rfl) rfl ?_)
    (refine nx (aM (gN rfl) rfl rfl rfl rfl rfl) rfl ?_)
    (refine ⟨_, _, _, a_off (go_off rfl rfl rfl rfl (by first | rfl | assumption | (simp; done) | (simp [*]; done))) rfl rfl rfl, rfl, ?_⟩)
    (refine ⟨_, _, _, a_off (go_off rfl rfl rfl rfl (by first | rfl | assumption | (simp; done) | (simp [*]; done))) rfl rfl rfl, rfl, ?_⟩)
    (refine ⟨_, _, _, a_off (go_off rfl rfl rfl rfl (by first | rfl | assumption | (simp; done) | (simp [*]; done))) rfl rfl rfl, rfl, ?_⟩)
    (refine ⟨_, _, _, a_off (go_off rfl rfl rfl rfl (by first | rfl | assumption | (simp; done) | (simp [*]; done))) rfl rfl rfl, rfl, ?_⟩)
    (refine ⟨_, _, _, a_off (go_off rfl rfl rfl rfl (by first | rfl | assumption | (simp; done) | (simp [*]; done))) rfl rfl rfl, rfl, ?_⟩)
    (refine ⟨_, _, _, aPf (gN rfl) rfl rfl rfl rfl rfl ?hb rfl, rfl, ?_⟩; case hb => (first | rfl | assumption | (simp; done)))
    show AWp _ _ _ _ _ _ _
    refine aC rfl (fun hc => by cases hc) (fun hc => aE ?_)
    show AWp _ _ _ _ _ _ _
    refine aS (aR ?_)
    (refine nx (aL (gN rfl) rfl rfl rfl rfl rfl rfl rfl rfl rfl rfl rfl rfl) rfl ?_)
    (refine nx (aSt (gN rfl) rfl rfl rfl rfl rfl rfl rfl rfl rfl rfl) rfl ?_)
    show AWp _ _ _ _ _ _ _
    exact aT (And.intro (.inr rfl) rfl)
  have hg : decide (f ≥ 0) = true := by simp only [decide_eq_true_eq]; omega
  rw [show (Tm.strip ⟨f, l⟩) = ⟨f, l.map Tm.strip⟩ by rw [Tm.strip_eq, Tm.ps_of_sym (t := ⟨f, l⟩) (by show 0 ≤ f; omega)]]
  refine aB (awp_count l.length (fun k => [(1, .bp 1 0 []), (100001, .bx (Tm.cw ⟨f, l⟩)), (2, .bp 2 0 []), (100002, ⟨5, .row [.i 0, .lst []], 1, 0, [1]⟩), (3, .bp 3 0 []), (100003, ⟨5, .row [.i f, .lst (((l.take k).map Tm.strip).map Tm.cv)], 200029, 0, [1]⟩), (200029, .tok 39 2), (4, .val (.i k))])
    ((wk_nil 100003 200029 39 2 rfl rfl rfl rfl rfl rfl rfl).trans (wk_sub ⟨rfl, rfl, rfl, rfl, rfl, rfl, rfl, rfl, trivial⟩)) ?_)
  intro k hk
  refine aS (aS (aR ?_))
  (refine nx (aF (gN rfl) rfl rfl rfl rfl rfl rfl rfl rfl rfl) rfl ?_)
  (refine nx (aLb (gN rfl) rfl rfl rfl rfl rfl rfl rfl rfl rfl rfl rfl rfl) rfl ?_)
  (refine nx (a_geq (gN rfl) rfl rfl rfl rfl rfl rfl) rfl ?_)
  (refine nx (aM (gN rfl) rfl rfl rfl rfl rfl) rfl ?_)
  (refine nx (aM (gd_on rfl rfl rfl rfl (by first | rfl | assumption | (simp; done))) rfl rfl rfl rfl rfl) rfl ?_)
  (refine nx (aF (gd_on rfl rfl rfl rfl (by first | rfl | assumption | (simp; done))) rfl rfl rfl rfl rfl rfl rfl rfl rfl) rfl ?_)
  (refine nx (aLb (gd_on rfl rfl rfl rfl (by first | rfl | assumption | (simp; done))) rfl rfl rfl rfl rfl rfl rfl rfl rfl rfl rfl rfl) rfl ?_)
  (refine nx (a_len (gd_on rfl rfl rfl rfl (by first | rfl | assumption | (simp; done))) rfl rfl rfl rfl rfl rfl rfl) rfl ?_)
  (refine nx (a_lss (gd_on rfl rfl rfl rfl (by first | rfl | assumption | (simp; done))) rfl rfl rfl rfl rfl rfl) rfl ?_)
  (refine ⟨_, _, _, aPt (gN rfl) rfl rfl rfl rfl rfl ?hb rfl, rfl, ?_⟩; case hb => (first | rfl | assumption | (simp; done)))
  show AWp _ _ _ _ _ _ _
  refine aC rfl (fun hc => aK ?_) (fun hc => aE ?_)
  · have hkl : k < l.length := by
      simp only [List.length_map, decide_eq_true_eq] at hc
      omega
    clear hc
    obtain ⟨t, ht⟩ : ∃ t, l[k]? = some t := ⟨l[k], List.getElem?_eq_getElem hkl⟩
    have ht' := Tm.map_at ht
    have htm := List.mem_of_getElem? ht
    show AWp _ _ _ _ _ _ _
    refine aS (aB (aD (by kernel_rfl) (by kernel_rfl) ?_))
    (refine nx (aF (gN rfl) rfl rfl rfl rfl rfl rfl rfl rfl rfl) rfl ?_)
    (refine nx (a_load_tok (gN rfl) rfl rfl rfl rfl rfl rfl rfl rfl rfl rfl rfl rfl rfl) rfl ?_)
    (refine nx (aF (gN rfl) rfl rfl rfl rfl rfl rfl rfl rfl rfl) rfl ?_)
    (refine nx (aLb (gN rfl) rfl rfl rfl rfl rfl rfl rfl rfl rfl rfl rfl rfl) rfl ?_)
    (refine nx (aM (gN rfl) rfl rfl rfl rfl rfl) rfl ?_)
    (refine nx (a_index (gN rfl) rfl rfl rfl rfl rfl rfl rfl rfl rfl (by assumption) rfl (by first | assumption | exact sZ rfl | exact Tm.size_all _ | exact Bd.size_all _ | exact ints_size _ | exact bys_size _ | exact Lt.size_all _)) rfl ?_)
    (refine nx (a_load_ad (gN rfl) rfl rfl rfl rfl rfl rfl rfl rfl rfl) rfl ?_)
    (refine nx (a_call (gN rfl) rfl rfl rfl rfl rfl ((ih t htm (hok t htm)).up hW)) rfl ?_)
    (refine nx (a_bslice (gN rfl) rfl rfl rfl rfl rfl rfl rfl rfl rfl rfl rfl rfl rfl) rfl ?_)
    (refine nx (a_app (gN rfl) rfl rfl rfl rfl rfl rfl rfl rfl rfl rfl rfl rfl rfl rfl rfl (by first | assumption | exact sZ rfl | exact Tm.size_all _ | exact Bd.size_all _ | exact ints_size _ | exact bys_size _ | exact Lt.size_all _) (by first | assumption | exact sZ rfl | exact Tm.size_all _ | exact Bd.size_all _ | exact ints_size _ | exact bys_size _ | exact Lt.size_all _) (by first | omega | (simp only [List.length_map, List.length_append, List.length_cons, List.length_nil] <;> omega) | (simp <;> omega))) rfl ?_)
    (refine nx (aF (gN rfl) rfl rfl rfl rfl rfl rfl rfl rfl rfl) rfl ?_)
    (refine nx (a_store (gN rfl) rfl rfl rfl rfl rfl rfl rfl rfl rfl rfl) rfl ?_)
    refine ⟨by kernel_rfl, ?_⟩
    show AWp _ _ _ _ _ _ _
    refine aR ?_
    (refine nx (aM (gN rfl) rfl rfl rfl rfl rfl) rfl ?_)
    (first | (refine nx (a_add (gN rfl) rfl rfl rfl rfl rfl rfl (by first | omega | (simp only [List.length_map, List.length_append, List.length_cons, List.length_nil] <;> omega) | (simp <;> omega))) rfl ?_) | (refine nx (a_sadd (gN rfl) rfl rfl rfl rfl rfl rfl (by first | omega | (simp only [List.length_map, List.length_append, List.length_cons, List.length_nil] <;> omega) | (simp <;> omega))) (by first | rfl | kernel_rfl) ?_))
    (refine nx (aA (gN rfl) rfl rfl rfl rfl rfl) rfl ?_)
    refine ⟨hkl, Wk.trans (wk_sub (s' := [(1, .bp 1 0 []), (100001, .bx (Tm.cw ⟨f, l⟩)), (2, .bp 2 0 []), (100002, ⟨5, .row [.i 0, .lst []], 1, 0, [1]⟩), (3, .bp 3 0 []), (100003, ⟨5, .row [.i f, .lst (((l.take (k + 1)).map Tm.strip).map Tm.cv)], 300029, 0, [1]⟩), (300029, .tok 39 2), (4, .val (.i ((k + 1 : Nat) : Int)))]) ⟨rfl, rfl, rfl, rfl, rfl, ?_, rfl, rfl, trivial⟩) (wk_ren 300029 200029 rfl rfl rfl rfl)⟩
    rw [List.take_add_one, ht, List.map_append, List.map_append]
    simp only [Option.toList_some, List.map_cons, List.map_nil, Tm.cv_eq]
    rfl
  · have hkl : k = l.length := by
      simp only [List.length_map, decide_eq_false_iff_not] at hc
      omega
    subst hkl
    rw [List.take_length]
    show AWp _ _ _ _ _ _ _
    refine aS (aR ?_)
    (refine nx (aL (gN rfl) rfl rfl rfl rfl rfl rfl rfl rfl rfl rfl rfl rfl) rfl ?_)
    (refine nx (aSt (gN rfl) rfl rfl rfl rfl rfl rfl rfl rfl rfl rfl) rfl ?_)
    show AWp _ _ _ _ _ _ _
    exact aT (And.intro (.inr rfl) rfl)

theorem flat_len_take (l : List Tm) (k : Nat) : ((l.take k).flatMap Tm.flat).length ≤ (l.flatMap Tm.flat).length := by
  conv => rhs; rw [← List.take_append_drop k l, List.flatMap_append, List.length_append]
  omega
-- 
set_option maxHeartbeats 1000000 in
theorem refFlat_abs (W : World) : ∀ (t : Tm), t.ok → t.size ≤ 90000000000 → AFun Tryz.prog W 31 [t.cw] (.val (.lst (t.flat.map Tm.cv))) := by
  intro t
  induction t using Tm.ind with
  | h f l ih =>
  intro hok hts
  obtain ⟨hl, hok⟩ := (Tm.ok_iff _).1 hok
  simp only at hl hok
  have hsz := Tm.size_all l
  refine afun_of (rs := [.lst ((Tm.flat ⟨f, l⟩).map Tm.cv)]) Tryz.func31 Tryz.ntmps31 rfl rfl rfl rfl ?_
  intro w U hW
  refine aS (aR ?_)
  (refine nx (a_box (gN rfl) rfl rfl rfl rfl rfl) rfl ?_)
  (refine nx (aA (gN rfl) rfl rfl rfl rfl rfl) rfl ?_)
  show AWp _ _ _ _ _ _ _
  refine aS (aR ?_)
  (refine nx (aL (gN rfl) rfl rfl rfl rfl rfl rfl rfl rfl rfl rfl rfl rfl) rfl ?_)
  (refine nx (a_bsliceT (gN rfl) rfl rfl rfl rfl rfl rfl rfl rfl rfl rfl rfl rfl rfl rfl) rfl ?_)
  (refine nx (aA (gN rfl) rfl rfl rfl rfl rfl) rfl ?_)
  show AWp _ _ _ _ _ _ _
  refine aS (aS (aR ?_))
  (refine nx (aA (gN rfl) rfl rfl rfl rfl rfl) rfl ?_)
  show AWp _ _ _ _ _ _ _
  have e0 : look [(3, AV.own (.lst [Tm.cw ⟨f, l⟩]) 300006)] 3 = some (.own (.lst ([Tm.mk f l].map Tm.cv)) 300006) := by
    simp only [List.map_cons, List.map_nil, Tm.cv_eq]
    rfl
  by_cases hf : f < 0
  · have hg : decide (f ≥ 0) = false := by simpa using hf
    rw [show Tm.flat ⟨f, l⟩ = [⟨f, l⟩] by rw [Tm.flat_eq, Tm.ps_of_var (t := ⟨f, l⟩) hf]; rfl]
    refine aB (awp_count 0 (fun k => [(1, .bp 1 0 []), (100001, .bx (Tm.cw ⟨f, l⟩)), (3, .val (.lst ([Tm.mk f l].map Tm.cv))), (4, .val (.i k))]) (Wk.trans (wk_sub (s' := [(1, .bp 1 0 []), (100001, .bx (Tm.cw ⟨f, l⟩)), (3, .own (.lst ([Tm.mk f l].map Tm.cv)) 300006), (4, .val (.i (0 : Nat)))]) ⟨rfl, rfl, e0, rfl, trivial⟩) (wk_plain 3 rfl)) ?_)
    intro k hk
    refine aS (aS (aR ?_))
    (refine nx (aF (gN rfl) rfl rfl rfl rfl rfl rfl rfl rfl rfl) rfl ?_)
    (refine nx (aLb (gN rfl) rfl rfl rfl rfl rfl rfl rfl rfl rfl rfl rfl rfl) rfl ?_)
    (refine nx (a_geq (gN rfl) rfl rfl rfl rfl rfl rfl) rfl ?_)
    (refine nx (aM (gN rfl) rfl rfl rfl rfl rfl) rfl ?_)
    (refine ⟨_, _, _, a_off (go_off rfl rfl rfl rfl (by first | rfl | assumption | (simp; done) | (simp [*]; done))) rfl rfl rfl, rfl, ?_⟩)
    (refine ⟨_, _, _, a_off (go_off rfl rfl rfl rfl (by first | rfl | assumption | (simp; done) | (simp [*]; done))) rfl rfl rfl, rfl, ?_⟩)
    (refine ⟨_, _, _, a_off (go_off rfl rfl rfl rfl (by first | rfl | assumption | (simp; done) | (simp [*]; done))) rfl rfl rfl, rfl, ?_⟩)
    (refine ⟨_, _, _, a_off (go_off rfl rfl rfl rfl (by first | rfl | assumption | (simp; done) | (simp [*]; done))) rfl rfl rfl, rfl, ?_⟩)
    (refine ⟨_, _, _, a_off (go_off rfl rfl rfl rfl (by first | rfl | assumption | (simp; done) | (simp [*]; done))) rfl rfl rfl, rfl, ?_⟩)
    (refine ⟨_, _, _, aPf (gN rfl) rfl rfl rfl rfl rfl ?hb rfl, rfl, ?_⟩; case hb => (first | rfl | assumption | (simp; done)))
    show AWp _ _ _ _ _ _ _
    refine aC rfl (fun hc => by cases hc) (fun hc => aE ?_)
    show AWp _ _ _ _ _ _ _
    refine aS (aR ?_)
    (refine nx (aM (gN rfl) rfl rfl rfl rfl rfl) rfl ?_)
    (refine nx (aA (gN rfl) rfl rfl rfl rfl rfl) rfl ?_)
    show AWp _ _ _ _ _ _ _
    exact aT (And.intro (.inr rfl) rfl)
  have hg : decide (f ≥ 0) = true := by simp only [decide_eq_true_eq]; omega
  have hfl : Tm.flat ⟨f, l⟩ = ⟨f, l⟩ :: l.flatMap Tm.flat := by rw [Tm.flat_eq, Tm.ps_of_sym (t := ⟨f, l⟩) (by show 0 ≤ f; omega)]
  unfold Tm.size at hts
  rw [hfl] at hts ⊢
  rw [List.length_cons] at hts
  refine aB (awp_count l.length (fun k => [(1, .bp 1 0 []), (100001, .bx (Tm.cw ⟨f, l⟩)), (3, .own (.lst ((Tm.mk f l :: (l.take k).flatMap Tm.flat).map Tm.cv)) 200026), (200026, .tok 39 2), (4, .val (.i k))])
    (Wk.trans (wk_sub (s' := [(1, .bp 1 0 []), (100001, .bx (Tm.cw ⟨f, l⟩)), (3, .own (.lst ([Tm.mk f l].map Tm.cv)) 300006), (300006, .tok 39 2), (4, .val (.i (0 : Nat)))]) ⟨rfl, rfl, e0, rfl, rfl, trivial⟩) (wk_ren 300006 200026 rfl rfl rfl rfl)) ?_)
  intro k hk
  refine aS (aS (aR ?_))
  (refine nx (aF (gN rfl) rfl rfl rfl rfl rfl rfl rfl rfl rfl) rfl ?_)
  (refine nx (aLb (gN rfl) rfl rfl rfl rfl rfl rfl rfl rfl rfl rfl rfl rfl) rfl ?_)
  (refine nx (a_geq (gN rfl) rfl rfl rfl rfl rfl rfl) rfl ?_)
  (refine nx (aM (gN rfl) rfl rfl rfl rfl rfl) rfl ?_)
  (refine nx (aM (gd_on rfl rfl rfl rfl (by first | rfl | assumption | (simp; done))) rfl rfl rfl rfl rfl) rfl ?_)
  (refine nx (aF (gd_on rfl rfl rfl rfl (by first | rfl | assumption | (simp; done))) rfl rfl rfl rfl rfl rfl rfl rfl rfl) rfl ?_)
  (refine nx (aLb (gd_on rfl rfl rfl rfl (by first | rfl | assumption | (simp; done))) rfl rfl rfl rfl rfl rfl rfl rfl rfl rfl rfl rfl) rfl ?_)
  (refine nx (a_len (gd_on rfl rfl rfl rfl (by first | rfl | assumption | (simp; done))) rfl rfl rfl rfl rfl rfl rfl) rfl ?_)
  (refine nx (a_lss (gd_on rfl rfl rfl rfl (by first | rfl | assumption | (simp; done))) rfl rfl rfl rfl rfl rfl) rfl ?_)
  (refine ⟨_, _, _, aPt (gN rfl) rfl rfl rfl rfl rfl ?hb rfl, rfl, ?_⟩; case hb => (first | rfl | assumption | (simp; done)))
  show AWp _ _ _ _ _ _ _
  refine aC rfl (fun hc => aK ?_) (fun hc => aE ?_)
  · have hkl : k < l.length := by
      simp only [List.length_map, decide_eq_true_eq] at hc
      omega
    clear hc
    obtain ⟨t, ht⟩ : ∃ t, l[k]? = some t := ⟨l[k], List.getElem?_eq_getElem hkl⟩
    have ht' := Tm.map_at ht
    have htm := List.mem_of_getElem? ht
    have hb1 := flat_len_take l k
    have hb2 := flatMap_len_mem Tm.flat htm
    have hb3 := flat_len_take l (k + 1)
    rw [List.take_add_one, ht, List.flatMap_append, List.length_append] at hb3
    simp only [Option.toList_some, List.flatMap_cons, List.flatMap_nil, List.append_nil] at hb3
    show AWp _ _ _ _ _ _ _
    refine aS (aB (aR ?_))
    (refine nx (aM (gN rfl) rfl rfl rfl rfl rfl) rfl ?_)
    (refine nx (aF (gN rfl) rfl rfl rfl rfl rfl rfl rfl rfl rfl) rfl ?_)
    (refine nx (aLb (gN rfl) rfl rfl rfl rfl rfl rfl rfl rfl rfl rfl rfl rfl) rfl ?_)
    (refine nx (aM (gN rfl) rfl rfl rfl rfl rfl) rfl ?_)
    (refine nx (a_index (gN rfl) rfl rfl rfl rfl rfl rfl rfl rfl rfl (by assumption) rfl (by first | assumption | exact sZ rfl | exact Tm.size_all _ | exact Bd.size_all _ | exact ints_size _ | exact bys_size _ | exact Lt.size_all _)) rfl ?_)
    (refine nx (a_load_ad (gN rfl) rfl rfl rfl rfl rfl rfl rfl rfl rfl) rfl ?_)
    (refine nx (a_call (gN rfl) rfl rfl rfl rfl rfl ((ih t htm (hok t htm) (by unfold Tm.size; omega)).up hW)) rfl ?_)
    (refine nx (a_app (gN rfl) rfl rfl rfl rfl rfl rfl rfl rfl rfl rfl rfl rfl rfl rfl rfl (by first | assumption | exact sZ rfl | exact Tm.size_all _ | exact Bd.size_all _ | exact ints_size _ | exact bys_size _ | exact Lt.size_all _) (by first | assumption | exact sZ rfl | exact Tm.size_all _ | exact Bd.size_all _ | exact ints_size _ | exact bys_size _ | exact Lt.size_all _) (by first | omega | (simp only [List.length_map, List.length_append, List.length_cons, List.length_nil] <;> omega) | (simp <;> omega))) rfl ?_)
    (refine nx (aA (gN rfl) rfl rfl rfl rfl rfl) rfl ?_)
    show AWp _ _ _ _ _ _ _
    refine aR ?_
    (refine nx (aM (gN rfl) rfl rfl rfl rfl rfl) rfl ?_)
    (first | (refine nx (a_add (gN rfl) rfl rfl rfl rfl rfl rfl (by first | omega | (simp only [List.length_map, List.length_append, List.length_cons, List.length_nil] <;> omega) | (simp <;> omega))) rfl ?_) | (refine nx (a_sadd (gN rfl) rfl rfl rfl rfl rfl rfl (by first | omega | (simp only [List.length_map, List.length_append, List.length_cons, List.length_nil] <;> omega) | (simp <;> omega))) (by first | rfl | kernel_rfl) ?_))
    (refine nx (aA (gN rfl) rfl rfl rfl rfl rfl) rfl ?_)
    refine ⟨hkl, Wk.trans (wk_sub (s' := [(1, .bp 1 0 []), (100001, .bx (Tm.cw ⟨f, l⟩)), (3, .own (.lst ((Tm.mk f l :: (l.take (k + 1)).flatMap Tm.flat).map Tm.cv)) 300026), (300026, .tok 39 2), (4, .val (.i ((k + 1 : Nat) : Int)))]) ⟨rfl, rfl, ?_, rfl, rfl, trivial⟩) (wk_ren 300026 200026 rfl rfl rfl rfl)⟩
    rw [List.take_add_one, ht, List.flatMap_append, ← List.cons_append, List.map_append]
    simp only [Option.toList_some, List.flatMap_cons, List.flatMap_nil, List.append_nil]
    rfl
  · have hkl : k = l.length := by
      simp only [List.length_map, decide_eq_false_iff_not] at hc
      omega
    subst hkl
    rw [List.take_length]
    show AWp _ _ _ _ _ _ _
    refine aS (aR ?_)
    (refine nx (aM (gN rfl) rfl rfl rfl rfl rfl) rfl ?_)
    (refine nx (aA (gN rfl) rfl rfl rfl rfl rfl) rfl ?_)
    show AWp _ _ _ _ _ _ _
    exact aT (And.intro (.inr rfl) rfl)
theorem Tm.rng_flat {t : Tm} (h : t.rng) : ∀ s ∈ t.flat, -9223372036854775808 ≤ s.f ∧ s.f ≤ 9223372036854775807 := by
  induction t using Tm.indp with
  | h t ih =>
    intro s hs
    rw [Tm.flat_eq] at hs
    rcases List.mem_cons.1 hs with rfl | hs
    · exact ((Tm.rng_iff _).1 h).1
    · obtain ⟨u, hu, hs⟩ := List.mem_flatMap.1 hs
      exact ih u hu (((Tm.rng_iff _).1 h).2 u (Tm.ps_mem hu).1) s hs
theorem mem_take_succ {l : List Int} {k : Nat} {x n : Int} (h : l[k]? = some x) : n ∈ l.take (k + 1) ↔ n ∈ l.take k ∨ x = n := by
  rw [List.take_add_one, h, List.mem_append]
  simp [eq_comm]

-- 
set_option maxHeartbeats 2000000 in
theorem refVars_abs (W : World) (t : Tm) (hr : t.rng) (hok : t.ok) (hts : t.size ≤ 90000000000) : AFun Tryz.prog W 19 [t.cw] (.val (.lst ((varsF t.flat).map CV.i))) := by
  refine afun_of (rs := [.lst ((varsF t.flat).map CV.i)]) Tryz.func19 Tryz.ntmps19 rfl rfl rfl rfl ?_
  intro w U hW
  refine aS (aR ?_)
  (refine nx (a_box (gN rfl) rfl rfl rfl rfl rfl) rfl ?_)
  (refine nx (aA (gN rfl) rfl rfl rfl rfl rfl) rfl ?_)
  show AWp _ _ _ _ _ _ _
  refine aS (aR ?_)
  (refine nx (aL (gN rfl) rfl rfl rfl rfl rfl rfl rfl rfl rfl rfl rfl rfl) rfl ?_)
  (refine nx (a_call (gN rfl) rfl rfl rfl rfl rfl (refFlat_abs w t hok hts)) rfl ?_)
  (refine nx (aA (gN rfl) rfl rfl rfl rfl rfl) rfl ?_)
  show AWp _ _ _ _ _ _ _
  have hrf := Tm.rng_flat hr
  unfold Tm.size at hts
  obtain ⟨l, hl⟩ : ∃ l, l = t.flat := ⟨_, rfl⟩
  rw [← hl] at hrf hts ⊢
  have hsz := Tm.size_all l
  refine aS (aR ?_)
  (refine nx (aA (gN rfl) rfl rfl rfl rfl rfl) rfl ?_)
  show AWp _ _ _ _ _ _ _
  refine aS (aS (aR ?_))
  (refine nx (aA (gN rfl) rfl rfl rfl rfl rfl) rfl ?_)
  show AWp _ _ _ _ _ _ _
  refine aB (awp_count l.length (fun i => [(3, .val (.lst (l.map Tm.cv))), (4, .own (.lst ((varsF (l.take i)).map CV.i)) 200049), (200049, .tok 3 1), (5, .val (.i i))])
    ((wk_nil 4 200049 3 1 rfl rfl rfl rfl rfl rfl rfl).trans (wk_sub ⟨rfl, rfl, rfl, rfl, trivial⟩)) ?_)
  intro i hi
  refine aS (aS (aR ?_))
  (refine nx (aM (gN rfl) rfl rfl rfl rfl rfl) rfl ?_)
  (refine nx (aM (gN rfl) rfl rfl rfl rfl rfl) rfl ?_)
  (refine nx (a_len (gN rfl) rfl rfl rfl rfl rfl rfl rfl) rfl ?_)
  (refine nx (a_lss (gN rfl) rfl rfl rfl rfl rfl rfl) rfl ?_)
  show AWp _ _ _ _ _ _ _
  refine aC rfl (fun hc => aK ?_) (fun hc => aE ?_)
  · have hil : i < l.length := by
      simp only [List.length_map, decide_eq_true_eq] at hc
      omega
    clear hc
    obtain ⟨s, hs⟩ : ∃ s, l[i]? = some s := ⟨l[i], List.getElem?_eq_getElem hil⟩
    have hs' := Tm.map_at hs
    have hsr := hrf s (List.mem_of_getElem? hs)
    have htk : l.take (i + 1) = l.take i ++ [s] := by rw [List.take_add_one, hs]; rfl
    have hvl := varsF_len (l.take i)
    rw [List.length_take] at hvl
    show AWp _ _ _ _ _ _ _
    refine aS (aB (aS (aS (aR ?_))))
    (refine nx (aM (gN rfl) rfl rfl rfl rfl rfl) rfl ?_)
    (refine nx (aM (gN rfl) rfl rfl rfl rfl rfl) rfl ?_)
    (refine nx (a_index (gN rfl) rfl rfl rfl rfl rfl rfl rfl rfl rfl (by assumption) rfl (by first | assumption | exact sZ rfl | exact Tm.size_all _ | exact Bd.size_all _ | exact ints_size _ | exact bys_size _ | exact Lt.size_all _)) rfl ?_)
    (refine nx (a_field_ad (gN rfl) rfl rfl rfl rfl rfl rfl rfl rfl rfl rfl rfl) rfl ?_)
    (refine nx (a_load_ad (gN rfl) rfl rfl rfl rfl rfl rfl rfl rfl rfl) rfl ?_)
    (refine nx (a_geq (gN rfl) rfl rfl rfl rfl rfl rfl) rfl ?_)
    show AWp _ _ _ _ _ _ _
    refine aC rfl (fun hc => aE ?_) (fun hc => aK ?_)
    · have hsf : ¬ s.f < 0 := by
        simp only [decide_eq_true_eq] at hc
        omega
      show AWp _ _ _ _ _ _ _
      refine aR ?_
      (refine nx (aM (gN rfl) rfl rfl rfl rfl rfl) rfl ?_)
      (first | (refine nx (a_add (gN rfl) rfl rfl rfl rfl rfl rfl (by first | omega | (simp only [List.length_map, List.length_append, List.length_cons, List.length_nil] <;> omega) | (simp <;> omega))) rfl ?_) | (refine nx (a_sadd (gN rfl) rfl rfl rfl rfl rfl rfl (by first | omega | (simp only [List.length_map, List.length_append, List.length_cons, List.length_nil] <;> omega) | (simp <;> omega))) (by first | rfl | kernel_rfl) ?_))
      (refine nx (aA (gN rfl) rfl rfl rfl rfl rfl) rfl ?_)
      refine ⟨hil, wk_sub ⟨rfl, ?_, rfl, rfl, trivial⟩⟩
      rw [htk, varsF_snoc]
      unfold varS
      rw [if_neg hsf]
      rfl
    have hsf : s.f < 0 := by
      simp only [decide_eq_false_iff_not] at hc
      omega
    clear hc
    show AWp _ _ _ _ _ _ _
    refine aS (aR ?_)
    (refine nx (aM (gN rfl) rfl rfl rfl rfl rfl) rfl ?_)
    (refine nx (aM (gN rfl) rfl rfl rfl rfl rfl) rfl ?_)
    (refine nx (a_index (gN rfl) rfl rfl rfl rfl rfl rfl rfl rfl rfl (by assumption) rfl (by first | assumption | exact sZ rfl | exact Tm.size_all _ | exact Bd.size_all _ | exact ints_size _ | exact bys_size _ | exact Lt.size_all _)) rfl ?_)
    (refine nx (a_field_ad (gN rfl) rfl rfl rfl rfl rfl rfl rfl rfl rfl rfl rfl) rfl ?_)
    (refine nx (a_load_ad (gN rfl) rfl rfl rfl rfl rfl rfl rfl rfl rfl) rfl ?_)
    (refine nx (a_sub (gN rfl) rfl rfl rfl rfl rfl rfl (by first | omega | (simp only [List.length_map, List.length_append, List.length_cons, List.length_nil] <;> omega) | (simp <;> omega))) rfl ?_)
    (refine nx (aA (gN rfl) rfl rfl rfl rfl rfl) rfl ?_)
    show AWp _ _ _ _ _ _ _
    refine aS (aR ?_)
    (refine nx (aA (gN rfl) rfl rfl rfl rfl rfl) rfl ?_)
    show AWp _ _ _ _ _ _ _
    obtain ⟨n, hn⟩ : ∃ n, n = -1 - s.f := ⟨_, rfl⟩
    obtain ⟨out, ho⟩ : ∃ out, out = varsF (l.take i) := ⟨_, rfl⟩
    rw [← ho] at hvl ⊢
    have hoz := ints_size out
    refine aS (aS (aR ?_))
    (refine nx (aA (gN rfl) rfl rfl rfl rfl rfl) rfl ?_)
    show AWp _ _ _ _ _ _ _
    refine aB (awp_count out.length (fun k => [(3, .val (.lst (l.map Tm.cv))), (4, .own (.lst (out.map CV.i)) 200049), (200049, .tok 3 1), (5, .val (.i i)), (6, .val (.i n)), (7, .val (.b (decide (n ∈ out.take k)))), (8, .val (.i k))]) (wk_sub ⟨rfl, rfl, rfl, rfl, by rw [hn]; rfl, rfl, rfl, trivial⟩) ?_)
    intro k hk
    refine aS (aS (aR ?_))
    (refine nx (aM (gN rfl) rfl rfl rfl rfl rfl) rfl ?_)
    (refine nx (aM (gN rfl) rfl rfl rfl rfl rfl) rfl ?_)
    (refine nx (a_len (gN rfl) rfl rfl rfl rfl rfl rfl rfl) rfl ?_)
    (refine nx (a_lss (gN rfl) rfl rfl rfl rfl rfl rfl) rfl ?_)
    show AWp _ _ _ _ _ _ _
    refine aC rfl (fun hc => aK ?_) (fun hc => aE ?_)
    · have hkl : k < out.length := by
        simp only [List.length_map, decide_eq_true_eq] at hc
        omega
      clear hc
      obtain ⟨x, hx⟩ : ∃ x, out[k]? = some x := ⟨out[k], List.getElem?_eq_getElem hkl⟩
      have hx' := ints_at hx
      show AWp _ _ _ _ _ _ _
      by_cases hm : n ∈ out.take k
      · have hg : decide (n ∈ out.take k) = true := by simpa using hm
        refine aS (aB (aR ?_))
        (refine nx (aM (gN rfl) rfl rfl rfl rfl rfl) rfl ?_)
        (refine nx (aM (gN rfl) rfl rfl rfl rfl rfl) rfl ?_)
        (refine ⟨_, _, _, a_off (go_off rfl rfl rfl rfl (by first | rfl | assumption | (simp; done) | (simp [*]; done))) rfl rfl rfl, rfl, ?_⟩)
        (refine ⟨_, _, _, a_off (go_off rfl rfl rfl rfl (by first | rfl | assumption | (simp; done) | (simp [*]; done))) rfl rfl rfl, rfl, ?_⟩)
        (refine ⟨_, _, _, a_off (go_off rfl rfl rfl rfl (by first | rfl | assumption | (simp; done) | (simp [*]; done))) rfl rfl rfl, rfl, ?_⟩)
        (refine ⟨_, _, _, a_off (go_off rfl rfl rfl rfl (by first | rfl | assumption | (simp; done) | (simp [*]; done))) rfl rfl rfl, rfl, ?_⟩)
        (refine ⟨_, _, _, a_off (go_off rfl rfl rfl rfl (by first | rfl | assumption | (simp; done) | (simp [*]; done))) rfl rfl rfl, rfl, ?_⟩)
        (refine ⟨_, _, _, a_off (go_off rfl rfl rfl rfl (by first | rfl | assumption | (simp; done) | (simp [*]; done))) rfl rfl rfl, rfl, ?_⟩)
        (refine ⟨_, _, _, aPt (gN rfl) rfl rfl rfl rfl rfl ?hb rfl, rfl, ?_⟩; case hb => (first | rfl | assumption | (simp; done)))
        (refine nx (aA (gN rfl) rfl rfl rfl rfl rfl) rfl ?_)
        show AWp _ _ _ _ _ _ _
        refine aR ?_
        (refine nx (aM (gN rfl) rfl rfl rfl rfl rfl) rfl ?_)
        (first | (refine nx (a_add (gN rfl) rfl rfl rfl rfl rfl rfl (by first | omega | (simp only [List.length_map, List.length_append, List.length_cons, List.length_nil] <;> omega) | (simp <;> omega))) rfl ?_) | (refine nx (a_sadd (gN rfl) rfl rfl rfl rfl rfl rfl (by first | omega | (simp only [List.length_map, List.length_append, List.length_cons, List.length_nil] <;> omega) | (simp <;> omega))) (by first | rfl | kernel_rfl) ?_))
        (refine nx (aA (gN rfl) rfl rfl rfl rfl rfl) rfl ?_)
        refine ⟨hkl, wk_sub ⟨rfl, rfl, rfl, rfl, rfl, ?_, rfl, trivial⟩⟩
        have : decide (n ∈ out.take (k + 1)) = true := by rw [decide_eq_true_eq, mem_take_succ hx]; exact .inl hm
        rw [this]
        rfl
      · have hg : decide (n ∈ out.take k) = false := by simpa using hm
        refine aS (aB (aR ?_))
        (refine nx (aM (gN rfl) rfl rfl rfl rfl rfl) rfl ?_)
        (refine nx (aM (gN rfl) rfl rfl rfl rfl rfl) rfl ?_)
        (refine nx (aM (gd_on rfl rfl rfl rfl (by first | rfl | assumption | (simp; done))) rfl rfl rfl rfl rfl) rfl ?_)
        (refine nx (aM (gd_on rfl rfl rfl rfl (by first | rfl | assumption | (simp; done))) rfl rfl rfl rfl rfl) rfl ?_)
        (refine nx (a_index (gd_on rfl rfl rfl rfl (by first | rfl | assumption | (simp; done))) rfl rfl rfl rfl rfl rfl rfl rfl rfl (by assumption) rfl (by first | assumption | exact sZ rfl | exact Tm.size_all _ | exact Bd.size_all _ | exact ints_size _ | exact bys_size _ | exact Lt.size_all _)) rfl ?_)
        (refine nx (a_load_ad (gd_on rfl rfl rfl rfl (by first | rfl | assumption | (simp; done))) rfl rfl rfl rfl rfl rfl rfl rfl rfl) rfl ?_)
        (refine nx (aM (gd_on rfl rfl rfl rfl (by first | rfl | assumption | (simp; done))) rfl rfl rfl rfl rfl) rfl ?_)
        (refine nx (a_eql (gd_on rfl rfl rfl rfl (by first | rfl | assumption | (simp; done))) rfl rfl rfl rfl rfl rfl) rfl ?_)
        (refine ⟨_, _, _, aPf (gN rfl) rfl rfl rfl rfl rfl ?hb rfl, rfl, ?_⟩; case hb => (first | rfl | assumption | (simp; done)))
        (refine nx (aA (gN rfl) rfl rfl rfl rfl rfl) rfl ?_)
        show AWp _ _ _ _ _ _ _
        refine aR ?_
        (refine nx (aM (gN rfl) rfl rfl rfl rfl rfl) rfl ?_)
        (first | (refine nx (a_add (gN rfl) rfl rfl rfl rfl rfl rfl (by first | omega | (simp only [List.length_map, List.length_append, List.length_cons, List.length_nil] <;> omega) | (simp <;> omega))) rfl ?_) | (refine nx (a_sadd (gN rfl) rfl rfl rfl rfl rfl rfl (by first | omega | (simp only [List.length_map, List.length_append, List.length_cons, List.length_nil] <;> omega) | (simp <;> omega))) (by first | rfl | kernel_rfl) ?_))
        (refine nx (aA (gN rfl) rfl rfl rfl rfl rfl) rfl ?_)
        refine ⟨hkl, wk_sub ⟨rfl, rfl, rfl, rfl, rfl, ?_, rfl, trivial⟩⟩
        have : decide (n ∈ out.take (k + 1)) = decide (x = n) := by rw [decide_eq_decide, mem_take_succ hx]; simp [hm]
        rw [this]
        rfl
    · have hkl : k = out.length := by
        simp only [List.length_map, decide_eq_false_iff_not] at hc
        omega
      subst hkl
      rw [List.take_length]
      show AWp _ _ _ _ _ _ _
      refine aS (aR ?_)
      (refine nx (aM (gN rfl) rfl rfl rfl rfl rfl) rfl ?_)
      (refine nx (a_not (gN rfl) rfl rfl rfl rfl rfl) rfl ?_)
      show AWp _ _ _ _ _ _ _
      refine aC rfl (fun hc => ?_) (fun hc => aK ?_)
      · have hm : n ∉ out := by simpa using hc
        refine aR ?_
        (refine nx (aM (gN rfl) rfl rfl rfl rfl rfl) rfl ?_)
        (refine nx (aM (gN rfl) rfl rfl rfl rfl rfl) rfl ?_)
        (refine nx (a_bslice (gN rfl) rfl rfl rfl rfl rfl rfl rfl rfl rfl rfl rfl rfl rfl) rfl ?_)
        (refine nx (a_app (gN rfl) rfl rfl rfl rfl rfl rfl rfl rfl rfl rfl rfl rfl rfl rfl rfl (by first | assumption | exact sZ rfl | exact Tm.size_all _ | exact Bd.size_all _ | exact ints_size _ | exact bys_size _ | exact Lt.size_all _) (by first | assumption | exact sZ rfl | exact Tm.size_all _ | exact Bd.size_all _ | exact ints_size _ | exact bys_size _ | exact Lt.size_all _) (by first | omega | (simp only [List.length_map, List.length_append, List.length_cons, List.length_nil] <;> omega) | (simp <;> omega))) rfl ?_)
        (refine nx (aA (gN rfl) rfl rfl rfl rfl rfl) rfl ?_)
        show AWp _ _ _ _ _ _ _
        refine aR ?_
        (refine nx (aM (gN rfl) rfl rfl rfl rfl rfl) rfl ?_)
        (first | (refine nx (a_add (gN rfl) rfl rfl rfl rfl rfl rfl (by first | omega | (simp only [List.length_map, List.length_append, List.length_cons, List.length_nil] <;> omega) | (simp <;> omega))) rfl ?_) | (refine nx (a_sadd (gN rfl) rfl rfl rfl rfl rfl rfl (by first | omega | (simp only [List.length_map, List.length_append, List.length_cons, List.length_nil] <;> omega) | (simp <;> omega))) (by first | rfl | kernel_rfl) ?_))
        (refine nx (aA (gN rfl) rfl rfl rfl rfl rfl) rfl ?_)
        refine ⟨hil, Wk.trans (wk_sub (s' := [(3, .val (.lst (l.map Tm.cv))), (4, .own (.lst ((varsF (l.take (i + 1))).map CV.i)) 300049), (300049, .tok 3 1), (5, .val (.i ((i + 1 : Nat) : Int)))]) ⟨rfl, ?_, rfl, rfl, trivial⟩) (wk_ren 300049 200049 rfl rfl rfl rfl)⟩
        have : varsF (l.take (i + 1)) = out ++ [n] := by
          rw [htk, varsF_snoc, ← ho]
          unfold varS
          rw [if_pos hsf, ← hn, if_neg hm]
        rw [this, List.map_append]
        rfl
      · have hm : n ∈ out := by simpa using hc
        show AWp _ _ _ _ _ _ _
        refine aR ?_
        (refine nx (aM (gN rfl) rfl rfl rfl rfl rfl) rfl ?_)
        (first | (refine nx (a_add (gN rfl) rfl rfl rfl rfl rfl rfl (by first | omega | (simp only [List.length_map, List.length_append, List.length_cons, List.length_nil] <;> omega) | (simp <;> omega))) rfl ?_) | (refine nx (a_sadd (gN rfl) rfl rfl rfl rfl rfl rfl (by first | omega | (simp only [List.length_map, List.length_append, List.length_cons, List.length_nil] <;> omega) | (simp <;> omega))) (by first | rfl | kernel_rfl) ?_))
        (refine nx (aA (gN rfl) rfl rfl rfl rfl rfl) rfl ?_)
        refine ⟨hil, wk_sub ⟨rfl, ?_, rfl, rfl, trivial⟩⟩
        have : varsF (l.take (i + 1)) = out := by
          rw [htk, varsF_snoc, ← ho]
          unfold varS
          rw [if_pos hsf, ← hn, if_pos hm]
        rw [this]
        rfl
  · have hil : i = l.length := by
      simp only [List.length_map, decide_eq_false_iff_not] at hc
      omega
    subst hil
    rw [List.take_length]
    show AWp _ _ _ _ _ _ _
    refine aS (aR ?_)
    (refine nx (aM (gN rfl) rfl rfl rfl rfl rfl) rfl ?_)
    (refine nx (aA (gN rfl) rfl rfl rfl rfl rfl) rfl ?_)
    show AWp _ _ _ _ _ _ _
    exact aT (And.intro (.inr rfl) rfl)

def fineBd (b : Bd) : Bool := decide (0 ≤ b.v) && (decide (b.v ≤ 1000) && decide (0 ≤ smallT b.t 20 10))
def fine7B (l : List Bd) : Bool := l.all fineBd && decide (l.length ≤ 8)
def appR (l : List Bd) : Tm → Tm
  | ⟨f, ts⟩ => if f < 0 then imgB l (-1 - f) else ⟨f, ts.map (appR l)⟩
theorem appR_var {l : List Bd} {t : Tm} (h : t.f < 0) : appR l t = imgB l (-1 - t.f) := by cases t; rw [appR, if_pos h]
theorem appR_sym {l : List Bd} {t : Tm} (h : ¬ t.f < 0) : appR l t = ⟨t.f, t.l.map (appR l)⟩ := by cases t; rw [appR, if_neg h]
theorem appR_ok {l : List Bd} {t : Tm} (h : t.ok) (hi : ∀ b ∈ l, b.t.ok) : (appR l t).ok := by
  induction t using Tm.ind with
  | h f ts ih =>
    obtain ⟨h1, h2⟩ := (Tm.ok_iff _).1 h
    simp only at h1 h2
    by_cases hf : f < 0
    · rw [appR_var hf]; exact imgB_ok2 hi _
    · rw [appR_sym hf]
      refine (Tm.ok_iff _).2 ⟨by simpa using h1, fun s hs => ?_⟩
      obtain ⟨u, hu, rfl⟩ := List.mem_map.1 hs
      exact ih u hu (h2 u hu)
-- 
set_option maxHeartbeats 2000000 in
theorem refApply_abs (W : World) (l : List Bd) (hl : l.length ≤ 1000000) : ∀ (t : Tm), t.rng → t.ok → AFun Tryz.prog W 20 [.lst (l.map Bd.cv), t.cw] (.val (appR l t).cw) := by
  have hsz := Bd.size_all l
  intro t
  induction t using Tm.ind with
  | h f ts ih =>
  intro hr hok
  obtain ⟨hlt, hok⟩ := (Tm.ok_iff _).1 hok
  have hr := (Tm.rng_iff _).1 hr
  simp only at hlt hok hr
  have hszt := Tm.size_all ts
  refine afun_of (rs := [(appR l ⟨f, ts⟩).cw]) Tryz.func20 Tryz.ntmps20 rfl rfl rfl rfl ?_
  intro w U hW
  refine aS (aR ?_)
  (refine nx (a_box (gN rfl) rfl rfl rfl rfl rfl) rfl ?_)
  (refine nx (a_alloc (gN rfl) rfl rfl rfl rfl rfl rfl rfl rfl rfl rfl) rfl ?_)
  show AWp _ _ _ _ _ _ _
  refine aS (aS (aR ?_))
  (refine nx (aF (gN rfl) rfl rfl rfl rfl rfl rfl rfl rfl rfl) rfl ?_)
  (refine nx (aLb (gN rfl) rfl rfl rfl rfl rfl rfl rfl rfl rfl rfl rfl rfl) rfl ?_)
  (refine nx (a_lss (gN rfl) rfl rfl rfl rfl rfl rfl) rfl ?_)
  show AWp _ _ _ _ _ _ _
  refine aC rfl (fun hc => ?_) (fun hc => aK ?_)
  · have hf : f < 0 := by simpa using hc
    rw [appR_var hf]
    refine aS (aS (aR ?_))
    (refine nx (aA (gN rfl) rfl rfl rfl rfl rfl) rfl ?_)
    show AWp _ _ _ _ _ _ _
    refine aB (awp_countI l.length (fun k => ∀ i c, i < k → l[i]? = some c → c.v ≠ -1 - f) (fun k => [(0, .val (.lst (l.map Bd.cv))), (3, .bp 3 0 []), (100003, .bx (Tm.cw ⟨f, ts⟩)), (4, .bp 4 0 []), (100004, ⟨5, .row [.i 0, .lst []], 1, 0, [1]⟩), (5, .val (.i k))]) (wk_sub ⟨rfl, rfl, rfl, rfl, rfl, rfl, trivial⟩) (by omega) ?_)
    intro k hk hI
    refine aS (aS (aR ?_))
    (refine nx (aM (gN rfl) rfl rfl rfl rfl rfl) rfl ?_)
    (refine nx (aM (gN rfl) rfl rfl rfl rfl rfl) rfl ?_)
    (refine nx (a_len (gN rfl) rfl rfl rfl rfl rfl rfl rfl) rfl ?_)
    (refine nx (a_lss (gN rfl) rfl rfl rfl rfl rfl rfl) rfl ?_)
    show AWp _ _ _ _ _ _ _
    refine aC rfl (fun hc => aK ?_) (fun hc => aE ?_)
    · have hkl : k < l.length := by
        simp only [List.length_map, decide_eq_true_eq] at hc
        omega
      clear hc
      obtain ⟨b, hb⟩ : ∃ b, l[k]? = some b := ⟨l[k], List.getElem?_eq_getElem hkl⟩
      have hb' := Bd.map_at hb
      show AWp _ _ _ _ _ _ _
      refine aS (aB (aS (aD (by kernel_rfl) (by kernel_rfl) ?_)))
      (refine nx (aM (gN rfl) rfl rfl rfl rfl rfl) rfl ?_)
      (refine nx (aM (gN rfl) rfl rfl rfl rfl rfl) rfl ?_)
      (refine nx (a_index (gN rfl) rfl rfl rfl rfl rfl rfl rfl rfl rfl (by assumption) rfl (by first | assumption | exact sZ rfl | exact Tm.size_all _ | exact Bd.size_all _ | exact ints_size _ | exact bys_size _ | exact Lt.size_all _)) rfl ?_)
      (refine nx (a_field_ad (gN rfl) rfl rfl rfl rfl rfl rfl rfl rfl rfl rfl rfl) rfl ?_)
      (refine nx (a_load_ad (gN rfl) rfl rfl rfl rfl rfl rfl rfl rfl rfl) rfl ?_)
      (refine nx (aF (gN rfl) rfl rfl rfl rfl rfl rfl rfl rfl rfl) rfl ?_)
      (refine nx (aLb (gN rfl) rfl rfl rfl rfl rfl rfl rfl rfl rfl rfl rfl rfl) rfl ?_)
      (refine nx (a_sub (gN rfl) rfl rfl rfl rfl rfl rfl (by first | omega | (simp only [List.length_map, List.length_append, List.length_cons, List.length_nil] <;> omega) | (simp <;> omega))) rfl ?_)
      (refine nx (a_eql (gN rfl) rfl rfl rfl rfl rfl rfl) rfl ?_)
      refine ⟨by kernel_rfl, ?_⟩
      show AWp _ _ _ _ _ _ _
      refine aC rfl (fun hc => ?_) (fun hc => aK ?_)
      · have hv : b.v = -1 - f := by simpa using hc
        have e : imgB l (-1 - f) = b.t := by unfold imgB; rw [findB_at hb hv hI]; rfl
        rw [e]
        refine aS (aR ?_)
        (refine nx (aM (gN rfl) rfl rfl rfl rfl rfl) rfl ?_)
        (refine nx (aM (gN rfl) rfl rfl rfl rfl rfl) rfl ?_)
        (refine nx (a_index (gN rfl) rfl rfl rfl rfl rfl rfl rfl rfl rfl (by assumption) rfl (by first | assumption | exact sZ rfl | exact Tm.size_all _ | exact Bd.size_all _ | exact ints_size _ | exact bys_size _ | exact Lt.size_all _)) rfl ?_)
        (refine nx (a_field_ad (gN rfl) rfl rfl rfl rfl rfl rfl rfl rfl rfl rfl rfl) rfl ?_)
        (refine nx (a_load_ad (gN rfl) rfl rfl rfl rfl rfl rfl rfl rfl rfl) rfl ?_)
        (refine nx (aSt (gN rfl) rfl rfl rfl rfl rfl rfl rfl rfl rfl rfl) rfl ?_)
        show AWp _ _ _ _ _ _ _
        exact aT (And.intro (.inr rfl) rfl)
      have hv : ¬ b.v = -1 - f := by simpa using hc
      clear hc
      show AWp _ _ _ _ _ _ _
      refine aR ?_
      (refine nx (aM (gN rfl) rfl rfl rfl rfl rfl) rfl ?_)
      (first | (refine nx (a_add (gN rfl) rfl rfl rfl rfl rfl rfl (by first | omega | (simp only [List.length_map, List.length_append, List.length_cons, List.length_nil] <;> omega) | (simp <;> omega))) rfl ?_) | (refine nx (a_sadd (gN rfl) rfl rfl rfl rfl rfl rfl (by first | omega | (simp only [List.length_map, List.length_append, List.length_cons, List.length_nil] <;> omega) | (simp <;> omega))) (by first | rfl | kernel_rfl) ?_))
      (refine nx (aA (gN rfl) rfl rfl rfl rfl rfl) rfl ?_)
      refine ⟨hkl, fun i c hi hcc => ?_, wk_sub ⟨rfl, rfl, rfl, rfl, rfl, rfl, trivial⟩⟩
      rcases Nat.lt_or_ge i k with h | h
      · exact hI i c h hcc
      · obtain rfl : i = k := by omega
        rw [hb] at hcc
        cases hcc
        exact hv
    · have hkl : k = l.length := by
        simp only [List.length_map, decide_eq_false_iff_not] at hc
        omega
      have e : imgB l (-1 - f) = ⟨f, []⟩ := by
        unfold imgB
        rw [findB_none fun b hb => by
          obtain ⟨i, hi, he⟩ := List.mem_iff_getElem.1 hb
          exact hI i b (by omega) (by rw [List.getElem?_eq_getElem hi, he])]
        show varT (-1 - f) = _
        unfold varT
        rw [show -1 - (-1 - f) = f by omega]
      rw [e]
      show AWp _ _ _ _ _ _ _
      refine aS (aR ?_)
      (refine nx (aF (gN rfl) rfl rfl rfl rfl rfl rfl rfl rfl rfl) rfl ?_)
      (refine nx (aLb (gN rfl) rfl rfl rfl rfl rfl rfl rfl rfl rfl rfl rfl rfl) rfl ?_)
      (refine nx (a_build (gN rfl) rfl rfl rfl rfl rfl rfl rfl rfl rfl rfl rfl) rfl ?_)
      (refine nx (aSt (gN rfl) rfl rfl rfl rfl rfl rfl rfl rfl rfl rfl) rfl ?_)
      show AWp _ _ _ _ _ _ _
      exact aT (And.intro (.inr rfl) rfl)
  have hf : ¬ f < 0 := by simpa using hc
  clear hc
  rw [appR_sym hf]
  show AWp _ _ _ _ _ _ _
  refine aS (aR ?_)
  (refine nx (aF (gN rfl) rfl rfl rfl rfl rfl rfl rfl rfl rfl) rfl ?_)
  (refine nx (aLb (gN rfl) rfl rfl rfl rfl rfl rfl rfl rfl rfl rfl rfl rfl) rfl ?_)
  (refine nx (a_build (gN rfl) rfl rfl rfl rfl rfl rfl rfl rfl rfl rfl rfl) rfl ?_)
  (refine nx (a_alloc (gN rfl) rfl rfl rfl rfl rfl rfl rfl rfl rfl rfl) rfl ?_)
  (refine nx (aSt (gN rfl) rfl rfl rfl rfl rfl rfl rfl rfl rfl rfl) rfl ?_)
  show AWp _ _ _ _ _ _ _
  refine aS (aS (aR ?_))
  (refine nx (aA (gN rfl) rfl rfl rfl rfl rfl) rfl ?_)
  show AWp _ _ _ _ _ _ _
  refine aB (awp_count ts.length (fun k => [(0, .val (.lst (l.map Bd.cv))), (3, .bp 3 0 []), (100003, .bx (Tm.cw ⟨f, ts⟩)), (4, .bp 4 0 []), (100004, ⟨5, .row [.i 0, .lst []], 1, 0, [1]⟩), (6, .bp 6 0 []), (100006, ⟨5, .row [.i f, .lst (((ts.take k).map (appR l)).map Tm.cv)], 200054, 0, [1]⟩), (200054, .tok 39 2), (7, .val (.i k))])
    ((wk_nil 100006 200054 39 2 rfl rfl rfl rfl rfl rfl rfl).trans (wk_sub ⟨rfl, rfl, rfl, rfl, rfl, rfl, rfl, rfl, rfl, trivial⟩)) ?_)
  intro k hk
  refine aS (aS (aR ?_))
  (refine nx (aM (gN rfl) rfl rfl rfl rfl rfl) rfl ?_)
  (refine nx (aF (gN rfl) rfl rfl rfl rfl rfl rfl rfl rfl rfl) rfl ?_)
  (refine nx (aLb (gN rfl) rfl rfl rfl rfl rfl rfl rfl rfl rfl rfl rfl rfl) rfl ?_)
  (refine nx (a_len (gN rfl) rfl rfl rfl rfl rfl rfl rfl) rfl ?_)
  (refine nx (a_lss (gN rfl) rfl rfl rfl rfl rfl rfl) rfl ?_)
  show AWp _ _ _ _ _ _ _
  refine aC rfl (fun hc => aK ?_) (fun hc => aE ?_)
  · have hkl : k < ts.length := by
      simp only [List.length_map, decide_eq_true_eq] at hc
      omega
    clear hc
    obtain ⟨t, ht⟩ : ∃ t, ts[k]? = some t := ⟨ts[k], List.getElem?_eq_getElem hkl⟩
    have ht' := Tm.map_at ht
    have htm := List.mem_of_getElem? ht
    show AWp _ _ _ _ _ _ _
    refine aS (aB (aD (by kernel_rfl) (by kernel_rfl) ?_))
    (refine nx (aF (gN rfl) rfl rfl rfl rfl rfl rfl rfl rfl rfl) rfl ?_)
    (refine nx (a_load_tok (gN rfl) rfl rfl rfl rfl rfl rfl rfl rfl rfl rfl rfl rfl rfl) rfl ?_)
    (refine nx (aM (gN rfl) rfl rfl rfl rfl rfl) rfl ?_)
    (refine nx (aF (gN rfl) rfl rfl rfl rfl rfl rfl rfl rfl rfl) rfl ?_)
    (refine nx (aLb (gN rfl) rfl rfl rfl rfl rfl rfl rfl rfl rfl rfl rfl rfl) rfl ?_)
    (refine nx (aM (gN rfl) rfl rfl rfl rfl rfl) rfl ?_)
    (refine nx (a_index (gN rfl) rfl rfl rfl rfl rfl rfl rfl rfl rfl (by assumption) rfl (by first | assumption | exact sZ rfl | exact Tm.size_all _ | exact Bd.size_all _ | exact ints_size _ | exact bys_size _ | exact Lt.size_all _)) rfl ?_)
    (refine nx (a_load_ad (gN rfl) rfl rfl rfl rfl rfl rfl rfl rfl rfl) rfl ?_)
    (refine nx (a_call (gN rfl) rfl rfl rfl rfl rfl ((ih t htm (hr.2 t htm) (hok t htm)).up hW)) rfl ?_)
    (refine nx (a_bslice (gN rfl) rfl rfl rfl rfl rfl rfl rfl rfl rfl rfl rfl rfl rfl) rfl ?_)
    (refine nx (a_app (gN rfl) rfl rfl rfl rfl rfl rfl rfl rfl rfl rfl rfl rfl rfl rfl rfl (by first | assumption | exact sZ rfl | exact Tm.size_all _ | exact Bd.size_all _ | exact ints_size _ | exact bys_size _ | exact Lt.size_all _) (by first | assumption | exact sZ rfl | exact Tm.size_all _ | exact Bd.size_all _ | exact ints_size _ | exact bys_size _ | exact Lt.size_all _) (by first | omega | (simp only [List.length_map, List.length_append, List.length_cons, List.length_nil] <;> omega) | (simp <;> omega))) rfl ?_)
    (refine nx (aF (gN rfl) rfl rfl rfl rfl rfl rfl rfl rfl rfl) rfl ?_)
    (refine nx (a_store (gN rfl) rfl rfl rfl rfl rfl rfl rfl rfl rfl rfl) rfl ?_)
    refine ⟨by kernel_rfl, ?_⟩
    show AWp _ _ _ _ _ _ _
    refine aR ?_
    (refine nx (aM (gN rfl) rfl rfl rfl rfl rfl) rfl ?_)
    (first | (refine nx (a_add (gN rfl) rfl rfl rfl rfl rfl rfl (by first | omega | (simp only [List.length_map, List.length_append, List.length_cons, List.length_nil] <;> omega) | (simp <;> omega))) rfl ?_) | (refine nx (a_sadd (gN rfl) rfl rfl rfl rfl rfl rfl (by first | omega | (simp only [List.length_map, List.length_append, List.length_cons, List.length_nil] <;> omega) | (simp <;> omega))) (by first | rfl | kernel_rfl) ?_))
    (refine nx (aA (gN rfl) rfl rfl rfl rfl rfl) rfl ?_)
    refine ⟨hkl, Wk.trans (wk_sub (s' := [(0, .val (.lst (l.map Bd.cv))), (3, .bp 3 0 []), (100003, .bx (Tm.cw ⟨f, ts⟩)), (4, .bp 4 0 []), (100004, ⟨5, .row [.i 0, .lst []], 1, 0, [1]⟩), (6, .bp 6 0 []), (100006, ⟨5, .row [.i f, .lst (((ts.take (k + 1)).map (appR l)).map Tm.cv)], 300054, 0, [1]⟩), (300054, .tok 39 2), (7, .val (.i ((k + 1 : Nat) : Int)))]) ⟨rfl, rfl, rfl, rfl, rfl, rfl, ?_, rfl, rfl, trivial⟩) (wk_ren 300054 200054 rfl rfl rfl rfl)⟩
    rw [List.take_add_one, ht, List.map_append, List.map_append]
    simp only [Option.toList_some, List.map_cons, List.map_nil, Tm.cv_eq]
    rfl
  · have hkl : k = ts.length := by
      simp only [List.length_map, decide_eq_false_iff_not] at hc
      omega
    subst hkl
    rw [List.take_length]
    show AWp _ _ _ _ _ _ _
    refine aS (aR ?_)
    (refine nx (aL (gN rfl) rfl rfl rfl rfl rfl rfl rfl rfl rfl rfl rfl rfl) rfl ?_)
    (refine nx (aSt (gN rfl) rfl rfl rfl rfl rfl rfl rfl rfl rfl rfl) rfl ?_)
    show AWp _ _ _ _ _ _ _
    exact aT (And.intro (.inr rfl) rfl)
end Go.Proofs.YtebhbnhijnpmcaaGreatDoor
namespace Go.Proofs.YtebhbnhijnpmcaaGreatDoor
set_option linter.unusedVariables false
set_option linter.unusedSimpArgs false
def ixOf : List Int → Int → Nat
  | [], _ => 0
  | x :: l, v => if x = v then 0 else ixOf l v + 1
def zipB (a b : List Int) : List Bd := List.zipWith (fun v u => ⟨v, varT u⟩) a b
def nums (n : Nat) : List Int := (List.range n).map fun i : Nat => (i : Int)
theorem nums_at {n i : Nat} (h : i < n) : (nums n)[i]? = some (i : Int) := by
  unfold nums
  rw [List.getElem?_map, List.getElem?_range h]; rfl
theorem nums_len (n : Nat) : (nums n).length = n := by simp [nums]
def Tm.nv (t : Tm) : List Int := nub t.vs
theorem nv_vars (t : Tm) : varsF t.flat = t.nv := varsF_nub _
def canT (t : Tm) : Tm := repT (imgB (zipB t.nv (nums t.nv.length))) t
def vntB (a b : Tm) : Bool := decide (a.nv.length = b.nv.length) && sameT (repT (imgB (zipB a.nv b.nv)) a) b
end Go.Proofs.YtebhbnhijnpmcaaGreatDoor
namespace Go.Proofs.YtebhbnhijnpmcaaGreatDoor
open Go.RowKit
set_option linter.unusedVariables false
structure Lt where
  neg : Bool
  a : Tm
  b : Tm
noncomputable abbrev Lt.cw (l : Lt) : CV := .row [.b l.neg, l.a.cw, l.b.cw]
noncomputable def Lt.cv (l : Lt) : CV := l.cw
theorem Lt.size_all (c : List Lt) : ∀ x ∈ c.map Lt.cv, x.size = 5 := by
  intro x hx
  obtain ⟨l, _, rfl⟩ := List.mem_map.1 hx
  rfl
theorem Lt.map_at {c : List Lt} {i : Nat} {l : Lt} (h : c[i]? = some l) : (c.map Lt.cv)[i]? = some l.cw := by rw [List.getElem?_map, h]; rfl
def Lt.strip (l : Lt) : Lt := ⟨l.neg, l.a.strip, l.b.strip⟩
def Lt.rng (l : Lt) : Prop := l.a.rng ∧ l.b.rng
def Lt.ok (l : Lt) : Prop := l.a.ok ∧ l.b.ok
end Go.Proofs.YtebhbnhijnpmcaaGreatDoor
namespace Go.Proofs.YtebhbnhijnpmcaaGreatDoor
open Go.RowKit
set_option linter.unusedVariables false
set_option linter.unusedSimpArgs false
structure Sg where
  nm : List By
  ar : List Nat
  pr : List Bool
abbrev Kd := By × Nat × Bool
structure Nm where
  sg : Sg
  sy : List (Kd × Nat)
  vr : List (By × Nat)
def lkA {α : Type} [DecidableEq α] (l : List (α × Nat)) (k : α) : Option Nat := (l.find? fun p => decide (p.1 = k)).map Prod.snd
def numF (st : Nm) (k : Kd) : Nat × Bool × Nm :=
  match lkA st.sy k with
  | some i => (i, true, st)
  | none => if 200 < st.sg.nm.length ∨ k.1 ∈ st.sg.nm then (0, false, st) else (st.sg.nm.length, true, ⟨⟨st.sg.nm ++ [k.1], st.sg.ar ++ [k.2.1], st.sg.pr ++ [k.2.2]⟩, st.sy ++ [(k, st.sg.nm.length)], st.vr⟩)
def varF (st : Nm) (v : By) : Nat × Nm :=
  match lkA st.vr v with
  | some i => (i, st)
  | none => (st.vr.length, ⟨st.sg, st.sy, st.vr ++ [(v, st.vr.length)]⟩)
def foldP (f : Nm → Ph → Option (Tm × Bool × Nm)) : Nm → List Ph → List Tm → Option (List Tm × Bool × Nm)
  | st, [], acc => some (acc, true, st)
  | st, p :: ps, acc => match f st p with
    | none => none
    | some r => if r.2.1 then foldP f r.2.2 ps (acc ++ [r.1]) else some ([], false, r.2.2)
def tz : Tm := ⟨0, []⟩
def symF (f : Nm → Ph → Option (Tm × Bool × Nm)) (st : Nm) (p : Ph) (pred : Bool) : Option (Tm × Bool × Nm) :=
  if (numF st ⟨p.name, p.parts.length, pred⟩).2.1 then
    match foldP f (numF st ⟨p.name, p.parts.length, pred⟩).2.2 p.parts [] with
    | none => none
    | some r => if r.2.1 then some (⟨((numF st ⟨p.name, p.parts.length, pred⟩).1 : Nat), r.1⟩, true, r.2.2) else some (tz, false, r.2.2)
  else some (tz, false, (numF st ⟨p.name, p.parts.length, pred⟩).2.2)
def tmF : Nat → Nm → Ph → Option (Tm × Bool × Nm)
  | 0, _, _ => none
  | n + 1, st, p => if isGrL p.name then some (⟨-1 - ((varF st p.name).1 : Nat), []⟩, true, (varF st p.name).2) else symF (tmF n) st p false
def litF (n : Nat) (st : Nm) (s : Se) : Option (Lt × Bool × Nm) :=
  if s.atom then (match symF (tmF n) st s.a true with
    | none => none
    | some r => some (⟨s.neg, r.1, tz⟩, r.2.1, r.2.2))
  else match tmF n st s.a with
    | none => none
    | some r => if r.2.1 then (match tmF n r.2.2 s.b with
        | none => none
        | some q => some (⟨s.neg, r.1, q.1⟩, q.2.1, q.2.2))
      else some (⟨false, tz, tz⟩, false, r.2.2)
def litsF (n : Nat) : Nm → List Se → List Lt → Option (List Lt × Bool × Nm)
  | st, [], acc => some (acc, true, st)
  | st, s :: ss, acc => match litF n st s with
    | none => none
    | some r => if r.2.1 then litsF n r.2.2 ss (acc ++ [r.1]) else some ([], false, r.2.2)
def clsF (n : Nat) (st : Nm) (c : List Se) : Option (List Lt × Bool × Nm) := litsF n ⟨st.sg, st.sy, []⟩ c []
def wtL (c : List Lt) : Nat := (c.map fun l => l.a.size + l.b.size).sum
def mnF (n : Nat) : Nm → List (List Se) → List (List Lt) → Option (Nm × List (List Lt) × Bool)
  | st, [], acc => some (st, acc, true)
  | st, c :: cs, acc => match clsF n st c with
    | none => none
    | some r => if r.2.1 && decide (wtL r.1 ≤ 60) then mnF n r.2.2 cs (acc ++ [r.1]) else some (st, [], false)
def sg0 : Sg := ⟨[[36, 116, 114, 117, 101]], [0], [true]⟩
def nm0 : Nm := ⟨sg0, [], []⟩
def prF (n : Nat) (src : By) : Option (Sg × List (List Lt) × Int) :=
  if 32768 < src.length then some (⟨[], [], []⟩, [], 9) else
  match rdAll n src with
  | none => none
  | some r => if r.2 && decide (r.1.length ≤ 64) then (match mnF n nm0 r.1 [] with
      | none => none
      | some q => if q.2.2 then some (q.1.sg, q.2.1, 0) else some (⟨[], [], []⟩, [], 7))
    else some (⟨[], [], []⟩, [], 7)

noncomputable def syv (p : Kd × Nat) : CV := .row [.sc (kdV p.1.1 p.1.2.1 p.1.2.2), .i (p.2 : Int)]
noncomputable def vrv (p : By × Nat) : CV := .row [.sc (.string ⟨p.1.toArray⟩), .i (p.2 : Int)]
def bv (b : Bool) : CV := .b b
def iv (n : Nat) : CV := .i (n : Int)
noncomputable abbrev nmS (st : Nm) : AS := [(450001, .obj), (35500100, .sl 300001 0 st.sg.nm.length 1), (35500101, .sl 300002 0 st.sg.ar.length 1), (35500102, .sl 300003 0 st.sg.pr.length 1), (35500103, .mref 300004), (35500104, .mref 300005), (300001, .mrow 9 1 (st.sg.nm.map sv)), (300002, .mrow 3 1 (st.sg.ar.map iv)), (300003, .mrow 4 1 (st.sg.pr.map bv)), (300004, .mp (st.sy.map syv)), (300005, .mp (st.vr.map vrv))]
structure Nm.ok (st : Nm) : Prop where
  la : st.sg.ar.length = st.sg.nm.length
  lp : st.sg.pr.length = st.sg.nm.length
  small : st.sg.nm.length ≤ 1000000
  syk : ∀ p ∈ st.sy, p.1.1.length ≤ 1000000 ∧ p.1.2.1 ≤ 1000000
  syn : (st.sy.map Prod.fst).Nodup
  sys : st.sy.length ≤ st.sg.nm.length ∧ ∀ p ∈ st.sy, p.2 ≤ 1000000
  vrk : ∀ p ∈ st.vr, p.1.length ≤ 1000000
  vrn : (st.vr.map Prod.fst).Nodup
  vrs : st.vr.length ≤ 1000000 ∧ ∀ p ∈ st.vr, p.2 ≤ 1000000
theorem kdV_inj {b c : By} {i j : Int} {p q : Bool} (h : kdV b i p = kdV c j q) : b = c ∧ i = j ∧ p = q := by
  simp only [kdV, Value.agg.injEq] at h
  have h := congrArg Array.toList h
  simp only [List.cons.injEq, Value.string.injEq, Value.int.injEq, Value.bool.injEq, true_and, and_true] at h
  obtain ⟨h1, h2, h3⟩ := h
  have h1 := congrArg (fun b : ByteArray => b.data.toList) h1
  exact ⟨by simpa using h1, h2, h3⟩
theorem sv_inj {b c : By} (h : Value.string ⟨b.toArray⟩ = .string ⟨c.toArray⟩) : b = c := by
  simp only [Value.string.injEq] at h
  have h1 := congrArg (fun b : ByteArray => b.data.toList) h
  simpa using h1
theorem lkA_some {α : Type} [DecidableEq α] {l : List (α × Nat)} {k : α} {i : Nat} (h : lkA l k = some i) : (k, i) ∈ l := by
  unfold lkA at h
  cases hf : l.find? (fun p => decide (p.1 = k)) with
  | none => rw [hf] at h; cases h
  | some p =>
    rw [hf] at h
    cases h
    have h1 := List.mem_of_find?_eq_some hf
    have h2 := List.find?_some hf
    have h2 : p.1 = k := by simpa using h2
    rw [← h2]
    exact h1
theorem lkA_none {α : Type} [DecidableEq α] {l : List (α × Nat)} {k : α} (h : lkA l k = none) : ∀ p ∈ l, p.1 ≠ k := by
  unfold lkA at h
  rw [Option.map_eq_none_iff, List.find?_eq_none] at h
  intro p hp e
  have := h p hp
  simp [e] at this
theorem nodup_snd {α : Type} {l : List (α × Nat)} (h : (l.map Prod.fst).Nodup) {k : α} {i j : Nat} (h1 : (k, i) ∈ l) (h2 : (k, j) ∈ l) : i = j := by
  induction l with
  | nil => cases h1
  | cons p l ih =>
    rw [List.map_cons, List.nodup_cons] at h
    rcases List.mem_cons.1 h1 with e1 | e1 <;> rcases List.mem_cons.1 h2 with e2 | e2
    · rw [← e1] at e2; cases e2; rfl
    · exact absurd (List.mem_map.2 ⟨_, e2, by rw [← e1]⟩) h.1
    · exact absurd (List.mem_map.2 ⟨_, e1, by rw [← e2]⟩) h.1
    · exact ih h.2 e1 e2
theorem sy_keys {st : Nm} (h : st.ok) : KeysK Tryz.prog 137 (st.sy.map syv) := fun r hr => by
  obtain ⟨p, hp, rfl⟩ := List.mem_map.1 hr
  have := h.syk p hp
  exact ⟨_, _, rfl, good_kind _ _ _ (by omega) (by omega)⟩
theorem vr_keysP {st : Nm} (h : st.ok) : KeysK Tryz.prog 9 (st.vr.map vrv) := fun r hr => by
  obtain ⟨p, hp, rfl⟩ := List.mem_map.1 hr
  have := h.vrk p hp
  exact ⟨_, _, rfl, good_str _ (by omega)⟩
theorem sy_no {st : Nm} {k : Kd} (h : lkA st.sy k = none) : ∀ c', CV.row [.sc (kdV k.1 k.2.1 k.2.2), c'] ∉ st.sy.map syv := fun c' hm => by
  obtain ⟨p, hp, e⟩ := List.mem_map.1 hm
  unfold syv at e
  injection e with _ _ e
  injection e with e _
  injection e with _ e _
  obtain ⟨e1, e2, e3⟩ := kdV_inj e
  refine lkA_none h p hp ?_
  obtain ⟨⟨a, b, c⟩, i⟩ := p
  obtain ⟨x, y, z⟩ := k
  simp only at e1 e2 e3
  rw [e1, e3, show b = y by omega]
theorem sy_yes {st : Nm} (ho : st.ok) {k : Kd} {i : Nat} (h : lkA st.sy k = some i) : (∃ r ∈ st.sy.map syv, r = CV.row [.sc (kdV k.1 k.2.1 k.2.2), .i (i : Int)]) ∧ ∀ c', CV.row [.sc (kdV k.1 k.2.1 k.2.2), c'] ∈ st.sy.map syv → c' = .i (i : Int) := by
  have hm := lkA_some h
  refine ⟨⟨_, List.mem_map_of_mem hm, rfl⟩, fun c' hc => ?_⟩
  obtain ⟨p, hp, e⟩ := List.mem_map.1 hc
  unfold syv at e
  injection e with _ _ e
  injection e with e e5
  injection e5 with e5 _
  injection e with _ e _
  obtain ⟨e1, e2, e3⟩ := kdV_inj e
  obtain ⟨⟨a, b, c⟩, j⟩ := p
  obtain ⟨x, y, z⟩ := k
  simp only at e1 e2 e3 e5
  have : (⟨a, b, c⟩ : Kd) = ⟨x, y, z⟩ := by rw [e1, e3, show b = y by omega]
  rw [this] at hp
  rw [← e5, nodup_snd ho.syn hm hp]
theorem vr_no {st : Nm} {k : By} (h : lkA st.vr k = none) : ∀ c', CV.row [.sc (.string ⟨k.toArray⟩), c'] ∉ st.vr.map vrv := fun c' hm => by
  obtain ⟨p, hp, e⟩ := List.mem_map.1 hm
  unfold vrv at e
  injection e with _ _ e
  injection e with e _
  injection e with _ e _
  exact lkA_none h p hp (sv_inj e)
theorem vr_yes {st : Nm} (ho : st.ok) {k : By} {i : Nat} (h : lkA st.vr k = some i) : (∃ r ∈ st.vr.map vrv, r = CV.row [.sc (.string ⟨k.toArray⟩), .i (i : Int)]) ∧ ∀ c', CV.row [.sc (.string ⟨k.toArray⟩), c'] ∈ st.vr.map vrv → c' = .i (i : Int) := by
  have hm := lkA_some h
  refine ⟨⟨_, List.mem_map_of_mem hm, rfl⟩, fun c' hc => ?_⟩
  obtain ⟨p, hp, e⟩ := List.mem_map.1 hc
  unfold vrv at e
  injection e with _ _ e
  injection e with e e5
  injection e5 with e5 _
  injection e with _ e _
  obtain ⟨a, j⟩ := p
  have e1 := sv_inj e
  simp only at e1 e5
  rw [e1] at hp
  rw [← e5, nodup_snd ho.vrn hm hp]
theorem numF_ok {st : Nm} (h : st.ok) {k : Kd} (hk : k.1.length ≤ 1000000 ∧ k.2.1 ≤ 1000000) : (numF st k).2.2.ok ∧ (numF st k).1 ≤ 1000000 := by
  unfold numF
  split
  · rename_i i hi
    exact ⟨h, h.sys.2 _ (lkA_some hi)⟩
  · rename_i hn
    split
    · exact ⟨h, Nat.zero_le _⟩
    · rename_i hb
      have hb : ¬ 200 < st.sg.nm.length := fun e => hb (.inl e)
      refine ⟨⟨?_, ?_, ?_, ?_, ?_, ?_, h.vrk, h.vrn, h.vrs⟩, by show st.sg.nm.length ≤ _; omega⟩
      · simp [h.la]
      · simp [h.lp]
      · simp; omega
      · intro p hp
        rcases List.mem_append.1 hp with hp | hp
        · exact h.syk p hp
        · rw [List.mem_singleton.1 hp]; exact hk
      · rw [List.map_append, List.nodup_append]
        refine ⟨h.syn, by simp, fun a ha b hb => ?_⟩
        simp at hb
        subst hb
        obtain ⟨p, hp, rfl⟩ := List.mem_map.1 ha
        exact lkA_none hn p hp
      · refine ⟨by simp; exact h.sys.1, fun p hp => ?_⟩
        rcases List.mem_append.1 hp with hp | hp
        · exact h.sys.2 p hp
        · rw [List.mem_singleton.1 hp]; show st.sg.nm.length ≤ _; omega
theorem numF_vr (st : Nm) (k : Kd) : (numF st k).2.2.vr = st.vr := by
  unfold numF
  split
  · rfl
  · split <;> rfl
theorem varF_ok {st : Nm} (h : st.ok) {v : By} (hv : v.length ≤ 1000000) (hl : st.vr.length < 1000000) : (varF st v).2.ok ∧ (varF st v).1 ≤ 1000000 ∧ (varF st v).2.vr.length ≤ st.vr.length + 1 := by
  unfold varF
  split
  · rename_i i hi
    exact ⟨h, h.vrs.2 _ (lkA_some hi), Nat.le_succ _⟩
  · rename_i hn
    refine ⟨⟨h.la, h.lp, h.small, h.syk, h.syn, h.sys, ?_, ?_, ?_⟩, by show st.vr.length ≤ _; omega, by simp⟩
    · intro p hp
      rcases List.mem_append.1 hp with hp | hp
      · exact h.vrk p hp
      · rw [List.mem_singleton.1 hp]; exact hv
    · rw [List.map_append, List.nodup_append]
      refine ⟨h.vrn, by simp, fun a ha b hb => ?_⟩
      simp at hb
      subst hb
      obtain ⟨p, hp, rfl⟩ := List.mem_map.1 ha
      exact lkA_none hn p hp
    · refine ⟨by simp; omega, fun p hp => ?_⟩
      rcases List.mem_append.1 hp with hp | hp
      · exact h.vrs.2 p hp
      · rw [List.mem_singleton.1 hp]; show st.vr.length ≤ _; omega
theorem svs_size (l : List By) : ∀ c ∈ l.map sv, c.size = 1 := by
  intro c hc
  obtain ⟨t, _, rfl⟩ := List.mem_map.1 hc
  rfl
theorem ivs_size (l : List Nat) : ∀ c ∈ l.map iv, c.size = 1 := by
  intro c hc
  obtain ⟨t, _, rfl⟩ := List.mem_map.1 hc
  rfl
theorem bvs_size (l : List Bool) : ∀ c ∈ l.map bv, c.size = 1 := by
  intro c hc
  obtain ⟨t, _, rfl⟩ := List.mem_map.1 hc
  rfl
theorem sv_at {l : List By} {i : Nat} {t : By} (h : l[i]? = some t) : (l.map sv)[i]? = some (sv t) := by rw [List.getElem?_map, h]; rfl
section
variable {P : Program} {w0 : World} {U0 : UX} {nt : Nat} {ops : Array Oper} {o : Oper} {S : Nat → Option AV} {gs : List Nat} {d : Nat} {s : AS} {a : Act} {w : World} {D : Nat → Nat → Prop} {hv : Nat → Value}
def noL (ds : List Nat) : AS := ds.map fun d => (d, AV.no)
end
end Go.Proofs.YtebhbnhijnpmcaaGreatDoor
namespace Go.Proofs.YtebhbnhijnpmcaaGreatDoor
open Go.RowKit Go.MapKept
set_option linter.unusedVariables false
set_option linter.unusedSimpArgs false
section
variable {P : Program} {w0 : World} {U0 : UX} {nt : Nat} {ops : Array Oper} {o : Oper} {S : Nat → Option AV} {gs : List Nat} {d : Nat} {s : AS} {a : Act} {w : World} {D : Nat → Nat → Prop} {hv : Nat → Value}

theorem live_two2 {x y : AV} {k m n : Nat} {e : Nat × Nat} (hk : k < 200000) (hm : m < 200000 ∨ 400000 ≤ m) : Live ((k, x) :: (m, y) :: s) n e ↔ Live s n e := by
  unfold Live
  constructor
  · rintro ⟨h1, h2⟩
    rw [lN (by omega), lN (by omega)] at h1
    exact ⟨h1, h2⟩
  · rintro ⟨h1, h2⟩
    exact ⟨by rw [lN (by omega), lN (by omega)]; exact h1, h2⟩
theorem hk_ne_boxN {lv : Nat → Prop} {a : AV} {d : Nat} (hd : BN d) (hlv : ∀ n, lv n → n = 1 ∨ RN n) (hr : a.n ≠ d) (h : Rn lv a) : hk a ≠ 100000 + d := by
  unfold BN at hd
  rcases h with ⟨h1, h2, h3⟩ | ⟨h1, h2⟩ | ⟨h1, h2⟩
  · rw [hk_eq.2 (by omega)]
    rcases hlv _ h2 with h4 | h4
    · exact absurd h4 h3
    · unfold RN at h4; omega
  · rw [hk_eq.1 h1]; omega
  · rw [hk_eq.2 (by omega)]; unfold RN at h2; omega
theorem SimG.newboxN (h : SimG w0 U0 nt s a w D hv) {nn : Nat} (hbn : BN nn) (hnf : ∀ v, U0.f (100000 + nn) = some v → False) (hr : NoRef s nn) (hd : d < nt) (h5 : d < 100000) {av : AV} (hav : av.t = 5 ∨ av = .obj) {xs : List Value} (ty : TypeId) (hrep : av.t = 5 → Rep (Us w0 U0 D) w av.c xs) (htk : av.t = 5 → Tk hv (LiveN s) av xs) :
    SimG w0 U0 nt ((d, .bp nn 0 []) :: (100000 + nn, av) :: s) (a.put (some d) (.pointer (some ⟨w.heap.size, 0, none⟩))) (w.alloc (.cells xs.toArray ty)) D (fun k => if k = 100000 + nn then .pointer (some ⟨w.heap.size, 0, none⟩) else hv k) := by
  have hbn1 := hbn
  unfold BN at hbn1
  have hb' : Below w.heap.size w (w.alloc (.cells xs.toArray ty)) := (Below.refl _ _).alloc (Nat.le_refl _) _
  have hG := h.grow' hb'
  obtain ⟨s', hs'⟩ : ∃ s', s' = (d, AV.bp nn 0 []) :: (100000 + nn, av) :: s := ⟨_, rfl⟩
  obtain ⟨hv', hhv⟩ : ∃ hv' : Nat → Value, hv' = fun k => if k = 100000 + nn then .pointer (some ⟨w.heap.size, 0, none⟩) else hv k := ⟨_, rfl⟩
  rw [← hs', ← hhv]
  have hl : ∀ n e, Live s' n e ↔ Live s n e := fun n e => by rw [hs']; exact live_two2 (by omega) (by unfold BN at hbn; omega)
  have hl2 : LiveN s' = LiveN s := by funext n; simp only [LiveN, hl]
  have hlk : ∀ k, k ≠ d → k ≠ 100000 + nn → look s' k = look s k := fun k h1 h2 => by rw [hs', lN (Ne.symm h1), lN (Ne.symm h2)]
  have hlb : look s' (100000 + nn) = some av := by rw [hs', lN (by omega), lS]
  have hvn : ∀ k, k ≠ 100000 + nn → hv' k = hv k := fun k hk => by rw [hhv]; simp only [if_neg hk]
  have hvd : hv' (100000 + nn) = .pointer (some ⟨w.heap.size, 0, none⟩) := by rw [hhv]; simp
  have hid : ∀ b o v, Us w0 U0 D b o → (w.alloc (.cells xs.toArray ty)).cell? ⟨b, o, none⟩ = some v → Us w0 U0 D b o ∧ (w.alloc (.cells xs.toArray ty)).cell? ⟨b, o, none⟩ = some v := fun _ _ _ h1 h2 => ⟨h1, h2⟩
  have hmv : ∀ {k av' v}, look s k = some av' → AVRep (Us w0 U0 D) (w.alloc (.cells xs.toArray ty)) hv (LiveN s) av' v → AVRep (Us w0 U0 D) (w.alloc (.cells xs.toArray ty)) hv' (LiveN s) av' v := fun {k av' v} h1 h2 =>
    h2.move hid (fun _ h => h) fun h3 => hvn _ (hk_ne_boxN hbn (fun n => liveN_rn) (hr k av' h1).1 h3)
  refine ⟨hG.below, h.dfr, by simp [Act.put, h.size], fun d' av' h1 h2 => ?_, fun n o av' h1 h2 h3 h10 => ?_, fun n o o' av1 av2 h1 h2 h3 h4 => ?_, fun k av' h1 h2 => ?_, fun k av' g h1 h2 h3 h4 => ?_, fun k k' av1 av2 g h1 h2 h3 h4 h6 h7 hne => ?_, fun n g h1 => ?_, hG.dlt⟩
  · rw [hl2]
    by_cases e : d = d'
    · subst e
      rw [hs', lS] at h1
      cases h1
      refine ⟨.pointer (some ⟨w.heap.size, 0, none⟩), by simp [Act.put, h.size, hd], ?_⟩
      unfold AVRep
      simp only [if_true]
      exact ⟨hbn, by rw [hvd]; rfl⟩
    · rw [hlk d' (Ne.symm e) (by omega)] at h1
      obtain ⟨v', h3, h4⟩ := hG.slot d' av' h1 h2
      exact ⟨v', by simp [Act.put, e, h3], hmv h1 h4⟩
  · rw [hlk _ (by unfold fKey; omega) (by unfold fKey; omega)] at h1
    have hn := (hr _ _ h1).2.1
    rw [fnm_key h2] at hn
    rw [hlk _ (by omega) (by omega)] at h3
    rw [hl2]
    obtain ⟨v, h4, h6, h7⟩ := hG.fld n o av' h1 h2 h3 h10
    refine ⟨v, hmv h1 h4, h6, ?_⟩
    rw [hvn _ (by omega)]
    exact h7
  · rw [hlk _ (by unfold fKey; omega) (by unfold fKey; omega)] at h1 h2
    exact h.fdis n o o' av1 av2 h1 h2 h3 h4
  · rw [hl2]
    by_cases e : k = 100000 + nn
    · subst e
      rw [hlb] at h1
      cases h1
      rw [hvd]
      unfold OC
      rcases hav with hav | rfl
      · rw [if_pos hav]
        refine ⟨w.heap.size, xs, ty, rfl, alloc_new _ _, (hrep hav).keep (us_keep h.dlt hb' fun _ _ h => h), fun hl => ?_⟩
        obtain ⟨m, c, g1, g2⟩ := htk hav hl
        refine ⟨m, c, g1, ?_⟩
        rw [g2]
        unfold tokv
        rcases liveN_rn hl with h6 | h6
        · rw [if_pos h6, if_pos h6]
        · unfold RN at h6
          rw [hvn _ (by omega)]
      · simp only [if_true]
        exact ⟨w.heap.size, xs.toArray, ty, rfl, alloc_new _ _⟩
    · have h2' := h2
      unfold oKey at h2'
      rw [hlk k (by omega) e] at h1
      rw [hvn k e]
      refine (hG.obj k av' h1 h2).move hid (fun _ hl => ⟨hl, ?_⟩) (fun _ _ => rfl)
      unfold tokv
      rcases liveN_rn hl with h6 | h6
      · rw [if_pos h6, if_pos h6]
      · unfold RN at h6
        rw [hvn _ (by omega)]
  · by_cases e : k = 100000 + nn
    · subst e
      rw [hvd] at h4
      have h4 : some w.heap.size = some g := h4
      cases h4
      refine ⟨.inl h.below.size, by simp, fun o _ hd => ?_⟩
      have := h.dlt _ _ hd
      omega
    · have h2' := h2
      unfold oKey at h2'
      rw [hlk k (by omega) e] at h1
      rw [hvn k e] at h4 ⊢
      exact hG.blk k av' g h1 h2 h3 h4
  · have h3' := h3
    have h4' := h4
    unfold oKey at h3' h4'
    by_cases e1 : k = 100000 + nn
    · have e2 : k' ≠ 100000 + nn := fun e => hne (e1.trans e.symm)
      rw [hlk k' (by omega) e2] at h2
      rw [e1, hvd, hvn k' e2]
      intro h8 h9
      have := (h.blk k' av2 g h2 h4 h7 h9).2.1
      have h8 : some w.heap.size = some g := h8
      cases h8
      omega
    · rw [hlk k (by omega) e1] at h1
      by_cases e2 : k' = 100000 + nn
      · rw [e2, hvd, hvn k e1]
        intro h8 h9
        have := (h.blk k av1 g h1 h3 h6 h8).2.1
        have h9 : some w.heap.size = some g := h9
        cases h9
        omega
      · rw [hlk k' (by omega) e2] at h2
        rw [hvn k e1, hvn k' e2]
        exact h.disj k k' av1 av2 g h1 h2 h3 h4 h6 h7 hne
  · have := U0.hf n g h1
    rw [hvn _ (fun e => hnf g (by rw [← e]; exact h1))]
    exact h.fix n g h1

end
def collPostL (L D : Nat) (Kp : World → World → Prop) (I : World → Prop) (W : World) : Exit → Act → World → Prop
  | .normal, _, W' => W'.heap[L]? = W.heap[L]? ∧ W'.heap[D]? = W.heap[D]? ∧ Kp W W' ∧ I W'
  | _, _, _ => False

section
variable {α : Type} {P : Program}
end

section
variable {P : Program} {w0 : World} {U0 : UX} {nt : Nat} {ops : Array Oper} {o : Oper} {S : Nat → Option AV} {gs : List Nat} {d : Nat} {s : AS} {a : Act} {w : World} {D : Nat → Nat → Prop} {hv : Nat → Value}

abbrev AV.ob (g o : Nat) : AV := ⟨20, .sc (.pointer (some ⟨g, 0, none⟩)), 0, o, []⟩
end
def KpX (n0 : Nat) (X : Nat → Prop) (V V' : World) : Prop := ∀ b, b < n0 → ¬ X b → V'.heap[b]? = V.heap[b]?
def Hands {α : Type} (P : Program) (gf : Nat) (caps : List CV) (encC : α → List CV) (xs : List α) : Prop :=
  ∀ (w : World) (lb : List Value) (R : Nat → Nat → Prop), VReps R w caps lb → Gives P gf lb.toArray (fun x => ((encC x).map CV.v).toArray) (fun pre x _ => xs[pre.length]? = some x) (KpX w.heap.size fun b => ¬ ∃ o, R b o) (fun ys => ys = xs) w

def asgL : List Oper → Option (List (Nat × Nat))
  | [] => some []
  | o :: os => match o.dst, o.op, o.guard, asgL os with
    | some d, .assign (.tmp t), none, some r => some ((d, t) :: r)
    | _, _, _, _ => none
def asgT : List (Nat × Nat) → Array Value → Array Value
  | [], tm => tm
  | (d, t) :: r, tm => asgT r (tm.setIfInBounds d (tm.getD t undef))
def asgS : List (Nat × Nat) → AS → AS
  | [], s => s
  | (d, t) :: r, s => asgS r ((d, match look s t with | some av => av | none => .no) :: s)
def parT : List Tmp → List Value → Array Value → Array Value
  | p :: ps, v :: vs, tm => parT ps vs (tm.setIfInBounds p v)
  | _, _, tm => tm
def parS : List Tmp → List CV → AS → AS
  | p :: ps, c :: cs, s => parS ps cs ((p, .val c) :: s)
  | _, _, s => s
def SlOk (R : AV → Value → Prop) (s : AS) (tm : Array Value) : Prop := ∀ d av, look s d = some av → ∃ v, tm[d]? = some v ∧ R av v
section
variable {P : Program} {w0 : World} {U0 : UX} {nt : Nat} {s : AS}
def AWpM (P : Program) (w0 : World) (U0 : UX) (nt : Nat) (c : Code) (Q : Exit → AS → Nat → Prop) (s : AS) : Prop :=
  ∀ a w, Sim w0 U0 nt s a w → c.wpIn Fence.wide 1 P (fun e a' w' => ∃ s' a'' g, Q e s' g ∧ Sim w0 U0 nt s' a'' w' ∧ a' = wdA a'' [⟨.collected g, #[]⟩] ∧ look s' 299999 = some (.ob g 0)) a w
end
section
variable {P : Program} {w0 : World} {U0 : UX} {nt : Nat} {ops : Array Oper} {o : Oper} {S : Nat → Option AV} {gs : List Nat} {d : Nat} {s : AS} {a : Act} {w : World} {D : Nat → Nat → Prop} {hv : Nat → Value}
end
end Go.Proofs.YtebhbnhijnpmcaaGreatDoor
-- @STR@
namespace Go.Proofs.YtebhbnhijnpmcaaGreatDoor
open Go.RowKit
set_option linter.unusedVariables false
set_option linter.unusedSimpArgs false
set_option maxRecDepth 100000

abbrev u8 (b : UInt8) : CV := .sc (.int .u8 (b.toNat : Int))
theorem hasP_abs (W : World) (s p : By) : AFun Tryz.prog W 51 [sv s, sv p] (.val (.b (Lib.hasPrefix s p))) := by
  refine ⟨ent_of Tryz.func51 rfl rfl, .inl rfl, rfl, ?_⟩
  rintro U w vs _ ⟨u1, us1, rfl, g1, u2, us2, rfl, g2, g3⟩
  have g3 : us2 = [] := g3
  subst g3
  obtain ⟨rfl, _⟩ := vrep_sc.1 g1
  obtain ⟨rfl, _⟩ := vrep_sc.1 g2
  refine (Tryz.strings_HasPrefix ⟨s.toArray⟩ ⟨p.toArray⟩ w).mono ?_
  rintro e w' ⟨rfl, rfl⟩
  exact ⟨_, rfl, vrep_sc.2 ⟨rfl, rfl⟩, Below.refl _ _⟩
theorem trim_abs (W : World) (s : By) : AFun Tryz.prog W 50 [sv s, sv [32, 9, 10, 13]] (.val (sv (trm s))) := by
  refine ⟨ent_of Tryz.func50 rfl rfl, .inl rfl, rfl, ?_⟩
  rintro U w vs _ ⟨u1, us1, rfl, g1, u2, us2, rfl, g2, g3⟩
  have g3 : us2 = [] := g3
  subst g3
  obtain ⟨rfl, _⟩ := vrep_sc.1 g1
  obtain ⟨rfl, _⟩ := vrep_sc.1 g2
  refine (Tryz.strings_TrimLeft ⟨s.toArray⟩ ⟨#[32, 9, 10, 13]⟩ w (by decide) (ascii_of_all (by decide))).mono ?_
  rintro e w' ⟨rfl, hb⟩
  exact ⟨_, rfl, vrep_sc.2 ⟨rfl, rfl⟩, hb⟩
theorem idx1_abs (W : World) (s : By) (c : UInt8) : AFun Tryz.prog W 78 [sv s, sv [c]] (.val (.i (Lib.indexByte s c))) := by
  refine ⟨ent_of Tryz.func78 rfl rfl, .inl rfl, rfl, ?_⟩
  rintro U w vs _ ⟨u1, us1, rfl, g1, u2, us2, rfl, g2, g3⟩
  have g3 : us2 = [] := g3
  subst g3
  obtain ⟨rfl, _⟩ := vrep_sc.1 g1
  obtain ⟨rfl, _⟩ := vrep_sc.1 g2
  refine (Tryz.stringslite_Index_one ⟨s.toArray⟩ c w).mono ?_
  rintro e w' ⟨rfl, rfl⟩
  exact ⟨_, rfl, vrep_sc.2 ⟨rfl, rfl⟩, Below.refl _ _⟩
theorem clone0_abs (W : World) (s : By) (hs : s.length ≤ 281474976710656) : AFun Tryz.prog W 80 [sv s] (.val (sv s)) := by
  refine ⟨ent_of Tryz.func80 rfl rfl, .inl rfl, rfl, ?_⟩
  rintro U w vs _ ⟨u1, us1, rfl, g1, g3⟩
  have g3 : us1 = [] := g3
  subst g3
  obtain ⟨rfl, _⟩ := vrep_sc.1 g1
  refine (Tryz.stringslite_Clone ⟨s.toArray⟩ w (by rw [ba_size]; exact hs)).mono ?_
  rintro e w' ⟨rfl, hb⟩
  exact ⟨_, rfl, vrep_sc.2 ⟨rfl, rfl⟩, hb⟩
-- 
theorem sClone_abs (W : World) (s : By) (hs : s.length ≤ 281474976710656) : AFun Tryz.prog W 72 [sv s] (.val (sv s)) := by
  refine afun_of (rs := [sv s]) Tryz.func72 Tryz.ntmps72 rfl rfl rfl rfl ?_
  intro w U hW
  refine aS (aR ?_)
  (refine nx (aA (gN rfl) rfl rfl rfl rfl rfl) rfl ?_)
  show AWp _ _ _ _ _ _ _
  refine aS (aR ?_)
  (refine nx (aM (gN rfl) rfl rfl rfl rfl rfl) rfl ?_)
  (refine nx (a_call (gN rfl) rfl rfl rfl rfl rfl (clone0_abs w s hs)) rfl ?_)
  (refine nx (aA (gN rfl) rfl rfl rfl rfl rfl) rfl ?_)
  show AWp _ _ _ _ _ _ _
  exact aT (And.intro (.inr rfl) rfl)
theorem behNl_idx : ∀ (s : By), (Lib.indexByte s 10 = -1 ∧ behNl s = []) ∨ ∃ k : Nat, Lib.indexByte s 10 = k ∧ k < s.length ∧ behNl s = s.drop (k + 1)
  | [] => .inl ⟨rfl, rfl⟩
  | b :: l => by
    unfold Lib.indexByte behNl
    by_cases h : b = 10
    · right
      exact ⟨0, by simp [h], by simp, by simp [h]⟩
    · have hb : (b == 10) = false := by simpa using h
      rw [hb, if_neg h]
      rcases behNl_idx l with ⟨e1, e2⟩ | ⟨k, e1, e2, e3⟩
      · left
        rw [e1]
        exact ⟨rfl, e2⟩
      · right
        refine ⟨k + 1, ?_, by rw [List.length_cons]; omega, by rw [e3]; rfl⟩
        rw [e1]
        have : ((k : Int) == -1) = false := by rw [beq_eq_false_iff_ne]; omega
        simp [this]
-- 
theorem cut0_abs (W : World) (s : By) (hs : s.length ≤ 1000000000) : ∃ p q, AFun Tryz.prog W 68 [sv s, sv [10]] (.tup [sv p, sv (behNl s), .b q]) := by
  have hi := idx1_abs W s 10
  rcases behNl_idx s with ⟨e1, e2⟩ | ⟨k, e1, e2, e3⟩
  · rw [e1] at hi
    refine ⟨s, false, ?_⟩
    rw [e2]
    refine afun_of (rs := [sv s, sv [], .b false]) Tryz.func68 Tryz.ntmps68 rfl rfl rfl rfl ?_
    intro w U hW
    refine aS (aR ?_)
    (refine nx (aA (gN rfl) rfl rfl rfl rfl rfl) rfl ?_)
    (refine nx (aA (gN rfl) rfl rfl rfl rfl rfl) rfl ?_)
    (refine nx (aA (gN rfl) rfl rfl rfl rfl rfl) rfl ?_)
    show AWp _ _ _ _ _ _ _
    refine aS (aS (aR ?_))
    (refine nx (aM (gN rfl) rfl rfl rfl rfl rfl) rfl ?_)
    (refine nx (aM (gN rfl) rfl rfl rfl rfl rfl) rfl ?_)
    (refine nx (a_call (gN rfl) rfl rfl rfl rfl rfl (hi.up hW)) rfl ?_)
    (refine nx (aA (gN rfl) rfl rfl rfl rfl rfl) rfl ?_)
    show AWp _ _ _ _ _ _ _
    refine aS (aR ?_)
    (refine nx (aM (gN rfl) rfl rfl rfl rfl rfl) rfl ?_)
    (refine nx (a_geq (gN rfl) rfl rfl rfl rfl rfl rfl) rfl ?_)
    show AWp _ _ _ _ _ _ _
    refine aC rfl (fun h => by cases h) (fun h => aK ?_)
    show AWp _ _ _ _ _ _ _
    refine aS (aR ?_)
    (refine nx (aM (gN rfl) rfl rfl rfl rfl rfl) rfl ?_)
    (refine nx (aA (gN rfl) rfl rfl rfl rfl rfl) rfl ?_)
    (refine nx (aA (gN rfl) rfl rfl rfl rfl rfl) rfl ?_)
    (refine nx (aA (gN rfl) rfl rfl rfl rfl rfl) rfl ?_)
    show AWp _ _ _ _ _ _ _
    exact aT (And.intro (.inr rfl) rfl)
  · rw [e1] at hi
    refine ⟨s.take k, true, ?_⟩
    rw [e3]
    refine afun_of (rs := [sv (s.take k), sv (s.drop (k + 1)), .b true]) Tryz.func68 Tryz.ntmps68 rfl rfl rfl rfl ?_
    intro w U hW
    refine aS (aR ?_)
    (refine nx (aA (gN rfl) rfl rfl rfl rfl rfl) rfl ?_)
    (refine nx (aA (gN rfl) rfl rfl rfl rfl rfl) rfl ?_)
    (refine nx (aA (gN rfl) rfl rfl rfl rfl rfl) rfl ?_)
    show AWp _ _ _ _ _ _ _
    refine aS (aS (aR ?_))
    (refine nx (aM (gN rfl) rfl rfl rfl rfl rfl) rfl ?_)
    (refine nx (aM (gN rfl) rfl rfl rfl rfl rfl) rfl ?_)
    (refine nx (a_call (gN rfl) rfl rfl rfl rfl rfl (hi.up hW)) rfl ?_)
    (refine nx (aA (gN rfl) rfl rfl rfl rfl rfl) rfl ?_)
    show AWp _ _ _ _ _ _ _
    refine aS (aR ?_)
    (refine nx (aM (gN rfl) rfl rfl rfl rfl rfl) rfl ?_)
    (refine nx (a_geq (gN rfl) rfl rfl rfl rfl rfl rfl) rfl ?_)
    show AWp _ _ _ _ _ _ _
    have g : decide ((k : Int) ≥ 0) = true := by rw [decide_eq_true_eq]; omega
    refine aC rfl (fun h => ?_) (fun h => by rw [g] at h; cases h)
    refine aS (aD (by kernel_rfl) (by kernel_rfl) ?_)
    (refine nx (aM (gN rfl) rfl rfl rfl rfl rfl) rfl ?_)
    (refine nx (aM (gN rfl) rfl rfl rfl rfl rfl) rfl ?_)
    (refine nx (a_supto (k) (gN rfl) rfl rfl rfl rfl rfl rfl rfl (by first | rfl | omega | (simp only [List.length_set, List.length_map, List.length_append, List.length_cons, List.length_nil] <;> omega) | (simp <;> omega)) (by first | rfl | omega | (simp only [List.length_set, List.length_map, List.length_append, List.length_cons, List.length_nil] <;> omega) | (simp <;> omega))) rfl ?_)
    (refine nx (aM (gN rfl) rfl rfl rfl rfl rfl) rfl ?_)
    (refine nx (aM (gN rfl) rfl rfl rfl rfl rfl) rfl ?_)
    (refine nx (aM (gN rfl) rfl rfl rfl rfl rfl) rfl ?_)
    (refine nx (a_slen (gN rfl) rfl rfl rfl rfl rfl rfl rfl) rfl ?_)
    (refine nx (a_add (gN rfl) rfl rfl rfl rfl rfl rfl (by first | omega | (simp only [List.length_map, List.length_append, List.length_cons, List.length_nil] <;> omega) | (simp <;> omega))) rfl ?_)
    (refine nx (a_sfrom (k + 1) (gN rfl) rfl rfl rfl rfl rfl rfl rfl (by first | rfl | omega | (simp only [List.length_set, List.length_map, List.length_append, List.length_cons, List.length_nil] <;> omega) | (simp <;> omega)) (by first | rfl | omega | (simp only [List.length_set, List.length_map, List.length_append, List.length_cons, List.length_nil] <;> omega) | (simp <;> omega))) rfl ?_)
    (refine nx (aA (gN rfl) rfl rfl rfl rfl rfl) rfl ?_)
    (refine nx (aA (gN rfl) rfl rfl rfl rfl rfl) rfl ?_)
    (refine nx (aA (gN rfl) rfl rfl rfl rfl rfl) rfl ?_)
    refine ⟨by kernel_rfl, ?_⟩
    show AWp _ _ _ _ _ _ _
    exact aT (And.intro (.inr rfl) rfl)
-- 
theorem cut_abs (W : World) (s : By) (hs : s.length ≤ 1000000000) : ∃ p q, AFun Tryz.prog W 52 [sv s, sv [10]] (.tup [sv p, sv (behNl s), .b q]) := by
  obtain ⟨p, q, h⟩ := cut0_abs W s hs
  refine ⟨p, q, ?_⟩
  refine afun_of (rs := [sv p, sv (behNl s), .b q]) Tryz.func52 Tryz.ntmps52 rfl rfl rfl rfl ?_
  intro w U hW
  refine aS (aR ?_)
  (refine nx (aA (gN rfl) rfl rfl rfl rfl rfl) rfl ?_)
  (refine nx (aA (gN rfl) rfl rfl rfl rfl rfl) rfl ?_)
  (refine nx (aA (gN rfl) rfl rfl rfl rfl rfl) rfl ?_)
  show AWp _ _ _ _ _ _ _
  refine aS (aR ?_)
  (refine nx (aM (gN rfl) rfl rfl rfl rfl rfl) rfl ?_)
  (refine nx (aM (gN rfl) rfl rfl rfl rfl rfl) rfl ?_)
  (refine nx (a_call (gN rfl) rfl rfl rfl rfl rfl (h.up hW)) rfl ?_)
  (refine nx (aX (gN rfl) rfl rfl rfl rfl rfl rfl) rfl ?_)
  (refine nx (aX (gN rfl) rfl rfl rfl rfl rfl rfl) rfl ?_)
  (refine nx (aX (gN rfl) rfl rfl rfl rfl rfl rfl) rfl ?_)
  (refine nx (aA (gN rfl) rfl rfl rfl rfl rfl) rfl ?_)
  (refine nx (aA (gN rfl) rfl rfl rfl rfl rfl) rfl ?_)
  (refine nx (aA (gN rfl) rfl rfl rfl rfl rfl) rfl ?_)
  show AWp _ _ _ _ _ _ _
  exact aT (And.intro (.inr rfl) rfl)
-- 
theorem smB_abs (W : World) (b : UInt8) : AFun Tryz.prog W 57 [u8 b] (.val (.b (smB b))) := by
  have e : smB b = (decide ((97 : Int) ≤ (b.toNat : Int)) && decide ((b.toNat : Int) ≤ 122)) := by
    unfold smB
    congr 1 <;> (rw [decide_eq_decide]; omega)
  rw [e]
  refine afun_of (rs := [.b (decide ((97 : Int) ≤ (b.toNat : Int)) && decide ((b.toNat : Int) ≤ 122))]) Tryz.func57 Tryz.ntmps57 rfl rfl rfl rfl ?_
  intro w U hW
  refine aS (aR ?_)
  (refine nx (aA (gN rfl) rfl rfl rfl rfl rfl) rfl ?_)
  show AWp _ _ _ _ _ _ _
  cases h : decide ((97 : Int) ≤ (b.toNat : Int)) with
  | true =>
    refine aS (aR ?_)
    (refine nx (aM (gN rfl) rfl rfl rfl rfl rfl) rfl ?_)
    (refine nx (a_leq (gN rfl) rfl rfl rfl rfl rfl rfl) rfl ?_)
    (refine nx (aM (gN rfl) rfl rfl rfl rfl rfl) rfl ?_)
    (refine nx (aM (gd_on rfl rfl rfl rfl (by first | rfl | assumption | (simp; done))) rfl rfl rfl rfl rfl) rfl ?_)
    (refine nx (a_leq (gd_on rfl rfl rfl rfl (by first | rfl | assumption | (simp; done))) rfl rfl rfl rfl rfl rfl) rfl ?_)
    (refine ⟨_, _, _, aPt (gN rfl) rfl rfl rfl rfl rfl ?hb rfl, rfl, ?_⟩; case hb => (first | rfl | assumption | (simp; done)))
    (refine nx (aA (gN rfl) rfl rfl rfl rfl rfl) rfl ?_)
    show AWp _ _ _ _ _ _ _
    exact aT (And.intro (.inr rfl) rfl)
  | false =>
    refine aS (aR ?_)
    (refine nx (aM (gN rfl) rfl rfl rfl rfl rfl) rfl ?_)
    (refine nx (a_leq (gN rfl) rfl rfl rfl rfl rfl rfl) rfl ?_)
    (refine nx (aM (gN rfl) rfl rfl rfl rfl rfl) rfl ?_)
    (refine ⟨_, _, _, a_off (go_off rfl rfl rfl rfl (by first | rfl | assumption | (simp; done) | (simp [*]; done))) rfl rfl rfl, rfl, ?_⟩)
    (refine ⟨_, _, _, a_off (go_off rfl rfl rfl rfl (by first | rfl | assumption | (simp; done) | (simp [*]; done))) rfl rfl rfl, rfl, ?_⟩)
    (refine ⟨_, _, _, aPf (gN rfl) rfl rfl rfl rfl rfl ?hb rfl, rfl, ?_⟩; case hb => (first | rfl | assumption | (simp; done)))
    (refine nx (aA (gN rfl) rfl rfl rfl rfl rfl) rfl ?_)
    show AWp _ _ _ _ _ _ _
    exact aT (And.intro (.inr rfl) rfl)
-- 
theorem grB_abs (W : World) (b : UInt8) : AFun Tryz.prog W 69 [u8 b] (.val (.b (grB b))) := by
  have e : grB b = (decide ((65 : Int) ≤ (b.toNat : Int)) && decide ((b.toNat : Int) ≤ 90)) := by
    unfold grB
    congr 1 <;> (rw [decide_eq_decide]; omega)
  rw [e]
  refine afun_of (rs := [.b (decide ((65 : Int) ≤ (b.toNat : Int)) && decide ((b.toNat : Int) ≤ 90))]) Tryz.func69 Tryz.ntmps69 rfl rfl rfl rfl ?_
  intro w U hW
  refine aS (aR ?_)
  (refine nx (aA (gN rfl) rfl rfl rfl rfl rfl) rfl ?_)
  show AWp _ _ _ _ _ _ _
  cases h : decide ((65 : Int) ≤ (b.toNat : Int)) with
  | true =>
    refine aS (aR ?_)
    (refine nx (aM (gN rfl) rfl rfl rfl rfl rfl) rfl ?_)
    (refine nx (a_leq (gN rfl) rfl rfl rfl rfl rfl rfl) rfl ?_)
    (refine nx (aM (gN rfl) rfl rfl rfl rfl rfl) rfl ?_)
    (refine nx (aM (gd_on rfl rfl rfl rfl (by first | rfl | assumption | (simp; done))) rfl rfl rfl rfl rfl) rfl ?_)
    (refine nx (a_leq (gd_on rfl rfl rfl rfl (by first | rfl | assumption | (simp; done))) rfl rfl rfl rfl rfl rfl) rfl ?_)
    (refine ⟨_, _, _, aPt (gN rfl) rfl rfl rfl rfl rfl ?hb rfl, rfl, ?_⟩; case hb => (first | rfl | assumption | (simp; done)))
    (refine nx (aA (gN rfl) rfl rfl rfl rfl rfl) rfl ?_)
    show AWp _ _ _ _ _ _ _
    exact aT (And.intro (.inr rfl) rfl)
  | false =>
    refine aS (aR ?_)
    (refine nx (aM (gN rfl) rfl rfl rfl rfl rfl) rfl ?_)
    (refine nx (a_leq (gN rfl) rfl rfl rfl rfl rfl rfl) rfl ?_)
    (refine nx (aM (gN rfl) rfl rfl rfl rfl rfl) rfl ?_)
    (refine ⟨_, _, _, a_off (go_off rfl rfl rfl rfl (by first | rfl | assumption | (simp; done) | (simp [*]; done))) rfl rfl rfl, rfl, ?_⟩)
    (refine ⟨_, _, _, a_off (go_off rfl rfl rfl rfl (by first | rfl | assumption | (simp; done) | (simp [*]; done))) rfl rfl rfl, rfl, ?_⟩)
    (refine ⟨_, _, _, aPf (gN rfl) rfl rfl rfl rfl rfl ?hb rfl, rfl, ?_⟩; case hb => (first | rfl | assumption | (simp; done)))
    (refine nx (aA (gN rfl) rfl rfl rfl rfl rfl) rfl ?_)
    show AWp _ _ _ _ _ _ _
    exact aT (And.intro (.inr rfl) rfl)
-- 
theorem inB_abs (W : World) (b : UInt8) : AFun Tryz.prog W 70 [u8 b] (.val (.b (inB b))) := by
  have e : inB b = ((smB b || grB b) || ((decide ((48 : Int) ≤ (b.toNat : Int)) && decide ((b.toNat : Int) ≤ 57)) || decide ((b.toNat : Int) = 95))) := by
    unfold inB
    congr 2
    · congr 1 <;> (rw [decide_eq_decide]; omega)
    · rw [decide_eq_decide]; omega
  rw [e]
  refine afun_of (rs := [.b ((smB b || grB b) || ((decide ((48 : Int) ≤ (b.toNat : Int)) && decide ((b.toNat : Int) ≤ 57)) || decide ((b.toNat : Int) = 95)))]) Tryz.func70 Tryz.ntmps70 rfl rfl rfl rfl ?_
  intro w U hW
  have c1 := smB_abs w b
  have c2 := grB_abs w b
  refine aS (aR ?_)
  (refine nx (aA (gN rfl) rfl rfl rfl rfl rfl) rfl ?_)
  show AWp _ _ _ _ _ _ _
  cases h1 : smB b with
  | true =>
    rw [h1] at c1
    refine aS (aR ?_)
    (refine nx (aM (gN rfl) rfl rfl rfl rfl rfl) rfl ?_)
    (refine nx (a_call (gN rfl) rfl rfl rfl rfl rfl (c1)) rfl ?_)
    (refine nx (aM (gN rfl) rfl rfl rfl rfl rfl) rfl ?_)
    (refine ⟨_, _, _, a_off (go_off rfl rfl rfl rfl (by first | rfl | assumption | (simp; done) | (simp [*]; done))) rfl rfl rfl, rfl, ?_⟩)
    (refine ⟨_, _, _, a_off (go_off rfl rfl rfl rfl (by first | rfl | assumption | (simp; done) | (simp [*]; done))) rfl rfl rfl, rfl, ?_⟩)
    (refine ⟨_, _, _, aPt (gN rfl) rfl rfl rfl rfl rfl ?hb rfl, rfl, ?_⟩; case hb => (first | rfl | assumption | (simp; done)))
    (refine nx (aM (gN rfl) rfl rfl rfl rfl rfl) rfl ?_)
    (refine ⟨_, _, _, a_offt (go_off rfl rfl rfl rfl (by first | rfl | assumption | (simp; done) | (simp [*]; done))) rfl rfl rfl, rfl, ?_⟩)
    (refine ⟨_, _, _, a_offt (go_off rfl rfl rfl rfl (by first | rfl | assumption | (simp; done) | (simp [*]; done))) rfl rfl rfl, rfl, ?_⟩)
    (refine ⟨_, _, _, a_offt (go_off rfl rfl rfl rfl (by first | rfl | assumption | (simp; done) | (simp [*]; done))) rfl rfl rfl, rfl, ?_⟩)
    (refine ⟨_, _, _, a_offt (go_off_t rfl rfl rfl rfl) rfl rfl rfl, rfl, ?_⟩)
    (refine ⟨_, _, _, a_offt (go_off_t rfl rfl rfl rfl) rfl rfl rfl, rfl, ?_⟩)
    (refine ⟨_, _, _, a_offt (go_off rfl rfl rfl rfl (by first | rfl | assumption | (simp; done) | (simp [*]; done))) rfl rfl rfl, rfl, ?_⟩)
    (refine ⟨_, _, _, aPt (gN rfl) rfl rfl rfl rfl rfl ?hb rfl, rfl, ?_⟩; case hb => (first | rfl | assumption | (simp; done)))
    (refine nx (aM (gN rfl) rfl rfl rfl rfl rfl) rfl ?_)
    (refine ⟨_, _, _, a_off (go_off rfl rfl rfl rfl (by first | rfl | assumption | (simp; done) | (simp [*]; done))) rfl rfl rfl, rfl, ?_⟩)
    (refine ⟨_, _, _, a_off (go_off rfl rfl rfl rfl (by first | rfl | assumption | (simp; done) | (simp [*]; done))) rfl rfl rfl, rfl, ?_⟩)
    (refine ⟨_, _, _, aPt (gN rfl) rfl rfl rfl rfl rfl ?hb rfl, rfl, ?_⟩; case hb => (first | rfl | assumption | (simp; done)))
    (refine nx (aA (gN rfl) rfl rfl rfl rfl rfl) rfl ?_)
    show AWp _ _ _ _ _ _ _
    exact aT (And.intro (.inr rfl) rfl)
  | false =>
  rw [h1] at c1
  cases h2 : grB b with
  | true =>
    rw [h2] at c2
    refine aS (aR ?_)
    (refine nx (aM (gN rfl) rfl rfl rfl rfl rfl) rfl ?_)
    (refine nx (a_call (gN rfl) rfl rfl rfl rfl rfl (c1)) rfl ?_)
    (refine nx (aM (gN rfl) rfl rfl rfl rfl rfl) rfl ?_)
    (refine nx (aM (gd_on rfl rfl rfl rfl (by first | rfl | assumption | (simp; done))) rfl rfl rfl rfl rfl) rfl ?_)
    (refine nx (a_call (gd_on rfl rfl rfl rfl (by first | rfl | assumption | (simp; done))) rfl rfl rfl rfl rfl (c2)) rfl ?_)
    (refine ⟨_, _, _, aPf (gN rfl) rfl rfl rfl rfl rfl ?hb rfl, rfl, ?_⟩; case hb => (first | rfl | assumption | (simp; done)))
    (refine nx (aM (gN rfl) rfl rfl rfl rfl rfl) rfl ?_)
    (refine ⟨_, _, _, a_offt (go_off rfl rfl rfl rfl (by first | rfl | assumption | (simp; done) | (simp [*]; done))) rfl rfl rfl, rfl, ?_⟩)
    (refine ⟨_, _, _, a_offt (go_off rfl rfl rfl rfl (by first | rfl | assumption | (simp; done) | (simp [*]; done))) rfl rfl rfl, rfl, ?_⟩)
    (refine ⟨_, _, _, a_offt (go_off rfl rfl rfl rfl (by first | rfl | assumption | (simp; done) | (simp [*]; done))) rfl rfl rfl, rfl, ?_⟩)
    (refine ⟨_, _, _, a_offt (go_off_t rfl rfl rfl rfl) rfl rfl rfl, rfl, ?_⟩)
    (refine ⟨_, _, _, a_offt (go_off_t rfl rfl rfl rfl) rfl rfl rfl, rfl, ?_⟩)
    (refine ⟨_, _, _, a_offt (go_off rfl rfl rfl rfl (by first | rfl | assumption | (simp; done) | (simp [*]; done))) rfl rfl rfl, rfl, ?_⟩)
    (refine ⟨_, _, _, aPt (gN rfl) rfl rfl rfl rfl rfl ?hb rfl, rfl, ?_⟩; case hb => (first | rfl | assumption | (simp; done)))
    (refine nx (aM (gN rfl) rfl rfl rfl rfl rfl) rfl ?_)
    (refine ⟨_, _, _, a_off (go_off rfl rfl rfl rfl (by first | rfl | assumption | (simp; done) | (simp [*]; done))) rfl rfl rfl, rfl, ?_⟩)
    (refine ⟨_, _, _, a_off (go_off rfl rfl rfl rfl (by first | rfl | assumption | (simp; done) | (simp [*]; done))) rfl rfl rfl, rfl, ?_⟩)
    (refine ⟨_, _, _, aPt (gN rfl) rfl rfl rfl rfl rfl ?hb rfl, rfl, ?_⟩; case hb => (first | rfl | assumption | (simp; done)))
    (refine nx (aA (gN rfl) rfl rfl rfl rfl rfl) rfl ?_)
    show AWp _ _ _ _ _ _ _
    exact aT (And.intro (.inr rfl) rfl)
  | false =>
  rw [h2] at c2
  cases h3 : decide ((48 : Int) ≤ (b.toNat : Int)) with
  | false =>
    refine aS (aR ?_)
    (refine nx (aM (gN rfl) rfl rfl rfl rfl rfl) rfl ?_)
    (refine nx (a_call (gN rfl) rfl rfl rfl rfl rfl (c1)) rfl ?_)
    (refine nx (aM (gN rfl) rfl rfl rfl rfl rfl) rfl ?_)
    (refine nx (aM (gd_on rfl rfl rfl rfl (by first | rfl | assumption | (simp; done))) rfl rfl rfl rfl rfl) rfl ?_)
    (refine nx (a_call (gd_on rfl rfl rfl rfl (by first | rfl | assumption | (simp; done))) rfl rfl rfl rfl rfl (c2)) rfl ?_)
    (refine ⟨_, _, _, aPf (gN rfl) rfl rfl rfl rfl rfl ?hb rfl, rfl, ?_⟩; case hb => (first | rfl | assumption | (simp; done)))
    (refine nx (aM (gN rfl) rfl rfl rfl rfl rfl) rfl ?_)
    (refine nx (aM (gd_on rfl rfl rfl rfl (by first | rfl | assumption | (simp; done))) rfl rfl rfl rfl rfl) rfl ?_)
    (refine nx (a_leq (gd_on rfl rfl rfl rfl (by first | rfl | assumption | (simp; done))) rfl rfl rfl rfl rfl rfl) rfl ?_)
    (refine nx (aM (gd_on rfl rfl rfl rfl (by first | rfl | assumption | (simp; done))) rfl rfl rfl rfl rfl) rfl ?_)
    (refine ⟨_, _, _, a_off (go_off rfl rfl rfl rfl (by first | rfl | assumption | (simp; done) | (simp [*]; done))) rfl rfl rfl, rfl, ?_⟩)
    (refine ⟨_, _, _, a_off (go_off rfl rfl rfl rfl (by first | rfl | assumption | (simp; done) | (simp [*]; done))) rfl rfl rfl, rfl, ?_⟩)
    (refine ⟨_, _, _, aPf (gd_on rfl rfl rfl rfl (by first | rfl | assumption | (simp; done))) rfl rfl rfl rfl rfl ?hb rfl, rfl, ?_⟩; case hb => (first | rfl | assumption | (simp; done)))
    (refine ⟨_, _, _, aPf (gN rfl) rfl rfl rfl rfl rfl ?hb rfl, rfl, ?_⟩; case hb => (first | rfl | assumption | (simp; done)))
    (refine nx (aM (gN rfl) rfl rfl rfl rfl rfl) rfl ?_)
    (refine nx (aM (gd_on rfl rfl rfl rfl (by first | rfl | assumption | (simp; done))) rfl rfl rfl rfl rfl) rfl ?_)
    (refine nx (a_eql (gd_on rfl rfl rfl rfl (by first | rfl | assumption | (simp; done))) rfl rfl rfl rfl rfl rfl) rfl ?_)
    (refine ⟨_, _, _, aPf (gN rfl) rfl rfl rfl rfl rfl ?hb rfl, rfl, ?_⟩; case hb => (first | rfl | assumption | (simp; done)))
    (refine nx (aA (gN rfl) rfl rfl rfl rfl rfl) rfl ?_)
    show AWp _ _ _ _ _ _ _
    exact aT (And.intro (.inr rfl) rfl)
  | true =>
  cases h4 : decide ((b.toNat : Int) ≤ 57) with
  | true =>
    refine aS (aR ?_)
    (refine nx (aM (gN rfl) rfl rfl rfl rfl rfl) rfl ?_)
    (refine nx (a_call (gN rfl) rfl rfl rfl rfl rfl (c1)) rfl ?_)
    (refine nx (aM (gN rfl) rfl rfl rfl rfl rfl) rfl ?_)
    (refine nx (aM (gd_on rfl rfl rfl rfl (by first | rfl | assumption | (simp; done))) rfl rfl rfl rfl rfl) rfl ?_)
    (refine nx (a_call (gd_on rfl rfl rfl rfl (by first | rfl | assumption | (simp; done))) rfl rfl rfl rfl rfl (c2)) rfl ?_)
    (refine ⟨_, _, _, aPf (gN rfl) rfl rfl rfl rfl rfl ?hb rfl, rfl, ?_⟩; case hb => (first | rfl | assumption | (simp; done)))
    (refine nx (aM (gN rfl) rfl rfl rfl rfl rfl) rfl ?_)
    (refine nx (aM (gd_on rfl rfl rfl rfl (by first | rfl | assumption | (simp; done))) rfl rfl rfl rfl rfl) rfl ?_)
    (refine nx (a_leq (gd_on rfl rfl rfl rfl (by first | rfl | assumption | (simp; done))) rfl rfl rfl rfl rfl rfl) rfl ?_)
    (refine nx (aM (gd_on rfl rfl rfl rfl (by first | rfl | assumption | (simp; done))) rfl rfl rfl rfl rfl) rfl ?_)
    (refine nx (aM (gd_on rfl rfl rfl rfl (by first | rfl | assumption | (simp; done))) rfl rfl rfl rfl rfl) rfl ?_)
    (refine nx (a_leq (gd_on rfl rfl rfl rfl (by first | rfl | assumption | (simp; done))) rfl rfl rfl rfl rfl rfl) rfl ?_)
    (refine ⟨_, _, _, aPt (gd_on rfl rfl rfl rfl (by first | rfl | assumption | (simp; done))) rfl rfl rfl rfl rfl ?hb rfl, rfl, ?_⟩; case hb => (first | rfl | assumption | (simp; done)))
    (refine ⟨_, _, _, aPf (gN rfl) rfl rfl rfl rfl rfl ?hb rfl, rfl, ?_⟩; case hb => (first | rfl | assumption | (simp; done)))
    (refine nx (aM (gN rfl) rfl rfl rfl rfl rfl) rfl ?_)
    (refine ⟨_, _, _, a_off (go_off rfl rfl rfl rfl (by first | rfl | assumption | (simp; done) | (simp [*]; done))) rfl rfl rfl, rfl, ?_⟩)
    (refine ⟨_, _, _, a_off (go_off rfl rfl rfl rfl (by first | rfl | assumption | (simp; done) | (simp [*]; done))) rfl rfl rfl, rfl, ?_⟩)
    (refine ⟨_, _, _, aPt (gN rfl) rfl rfl rfl rfl rfl ?hb rfl, rfl, ?_⟩; case hb => (first | rfl | assumption | (simp; done)))
    (refine nx (aA (gN rfl) rfl rfl rfl rfl rfl) rfl ?_)
    show AWp _ _ _ _ _ _ _
    exact aT (And.intro (.inr rfl) rfl)
  | false =>
    refine aS (aR ?_)
    (refine nx (aM (gN rfl) rfl rfl rfl rfl rfl) rfl ?_)
    (refine nx (a_call (gN rfl) rfl rfl rfl rfl rfl (c1)) rfl ?_)
    (refine nx (aM (gN rfl) rfl rfl rfl rfl rfl) rfl ?_)
    (refine nx (aM (gd_on rfl rfl rfl rfl (by first | rfl | assumption | (simp; done))) rfl rfl rfl rfl rfl) rfl ?_)
    (refine nx (a_call (gd_on rfl rfl rfl rfl (by first | rfl | assumption | (simp; done))) rfl rfl rfl rfl rfl (c2)) rfl ?_)
    (refine ⟨_, _, _, aPf (gN rfl) rfl rfl rfl rfl rfl ?hb rfl, rfl, ?_⟩; case hb => (first | rfl | assumption | (simp; done)))
    (refine nx (aM (gN rfl) rfl rfl rfl rfl rfl) rfl ?_)
    (refine nx (aM (gd_on rfl rfl rfl rfl (by first | rfl | assumption | (simp; done))) rfl rfl rfl rfl rfl) rfl ?_)
    (refine nx (a_leq (gd_on rfl rfl rfl rfl (by first | rfl | assumption | (simp; done))) rfl rfl rfl rfl rfl rfl) rfl ?_)
    (refine nx (aM (gd_on rfl rfl rfl rfl (by first | rfl | assumption | (simp; done))) rfl rfl rfl rfl rfl) rfl ?_)
    (refine nx (aM (gd_on rfl rfl rfl rfl (by first | rfl | assumption | (simp; done))) rfl rfl rfl rfl rfl) rfl ?_)
    (refine nx (a_leq (gd_on rfl rfl rfl rfl (by first | rfl | assumption | (simp; done))) rfl rfl rfl rfl rfl rfl) rfl ?_)
    (refine ⟨_, _, _, aPt (gd_on rfl rfl rfl rfl (by first | rfl | assumption | (simp; done))) rfl rfl rfl rfl rfl ?hb rfl, rfl, ?_⟩; case hb => (first | rfl | assumption | (simp; done)))
    (refine ⟨_, _, _, aPf (gN rfl) rfl rfl rfl rfl rfl ?hb rfl, rfl, ?_⟩; case hb => (first | rfl | assumption | (simp; done)))
    (refine nx (aM (gN rfl) rfl rfl rfl rfl rfl) rfl ?_)
    (refine nx (aM (gd_on rfl rfl rfl rfl (by first | rfl | assumption | (simp; done))) rfl rfl rfl rfl rfl) rfl ?_)
    (refine nx (a_eql (gd_on rfl rfl rfl rfl (by first | rfl | assumption | (simp; done))) rfl rfl rfl rfl rfl rfl) rfl ?_)
    (refine ⟨_, _, _, aPf (gN rfl) rfl rfl rfl rfl rfl ?hb rfl, rfl, ?_⟩; case hb => (first | rfl | assumption | (simp; done)))
    (refine nx (aA (gN rfl) rfl rfl rfl rfl rfl) rfl ?_)
    show AWp _ _ _ _ _ _ _
    exact aT (And.intro (.inr rfl) rfl)
-- 
theorem isSm_abs (W : World) (s : By) (hs : s ≠ []) : AFun Tryz.prog W 43 [sv s] (.val (.b (isSmL s))) := by
  obtain ⟨b, l, rfl⟩ : ∃ b l, s = b :: l := by
    cases s with
    | nil => exact absurd rfl hs
    | cons b l => exact ⟨b, l, rfl⟩
  refine afun_of (rs := [.b (smB b)]) Tryz.func43 Tryz.ntmps43 rfl rfl rfl rfl ?_
  intro w U hW
  refine aS (aR ?_)
  (refine nx (aA (gN rfl) rfl rfl rfl rfl rfl) rfl ?_)
  show AWp _ _ _ _ _ _ _
  refine aS (aR ?_)
  (refine nx (aM (gN rfl) rfl rfl rfl rfl rfl) rfl ?_)
  (refine nx (a_sidx (0) (gN rfl) rfl rfl rfl rfl rfl rfl rfl (by first | rfl | omega | (simp only [List.length_set, List.length_map, List.length_append, List.length_cons, List.length_nil] <;> omega) | (simp <;> omega)) (rfl)) rfl ?_)
  (refine nx (a_call (gN rfl) rfl rfl rfl rfl rfl (smB_abs w b)) rfl ?_)
  (refine nx (aA (gN rfl) rfl rfl rfl rfl rfl) rfl ?_)
  show AWp _ _ _ _ _ _ _
  exact aT (And.intro (.inr rfl) rfl)
-- 
theorem isGr_abs (W : World) (s : By) (hs : s ≠ []) : AFun Tryz.prog W 53 [sv s] (.val (.b (isGrL s))) := by
  obtain ⟨b, l, rfl⟩ : ∃ b l, s = b :: l := by
    cases s with
    | nil => exact absurd rfl hs
    | cons b l => exact ⟨b, l, rfl⟩
  refine afun_of (rs := [.b (grB b)]) Tryz.func53 Tryz.ntmps53 rfl rfl rfl rfl ?_
  intro w U hW
  refine aS (aR ?_)
  (refine nx (aA (gN rfl) rfl rfl rfl rfl rfl) rfl ?_)
  show AWp _ _ _ _ _ _ _
  refine aS (aR ?_)
  (refine nx (aM (gN rfl) rfl rfl rfl rfl rfl) rfl ?_)
  (refine nx (a_sidx (0) (gN rfl) rfl rfl rfl rfl rfl rfl rfl (by first | rfl | omega | (simp only [List.length_set, List.length_map, List.length_append, List.length_cons, List.length_nil] <;> omega) | (simp <;> omega)) (rfl)) rfl ?_)
  (refine nx (a_call (gN rfl) rfl rfl rfl rfl rfl (grB_abs w b)) rfl ?_)
  (refine nx (aA (gN rfl) rfl rfl rfl rfl rfl) rfl ?_)
  show AWp _ _ _ _ _ _ _
  exact aT (And.intro (.inr rfl) rfl)
theorem nmSz_at : ∀ {s : By} {k : Nat} {b : UInt8}, (∀ (i : Nat) c, i < k → s[i]? = some c → inB c = true) → s[k]? = some b → inB b = false → nmSz s = k
  | [], k, b, _, h, _ => by simp at h
  | c :: s, 0, b, _, h, hb => by
    simp at h
    subst h
    unfold nmSz
    rw [List.takeWhile_cons_of_neg (by rw [hb]; simp)]
    rfl
  | c :: s, k + 1, b, hI, h, hb => by
    have := nmSz_at (s := s) (k := k) (b := b) (fun i x hi hx => hI (i + 1) x (by omega) (by simpa using hx)) (by simpa using h) hb
    unfold nmSz at *
    rw [List.takeWhile_cons_of_pos (hI 0 c (by omega) rfl), List.length_cons, this]
theorem nmSz_all : ∀ {s : By}, (∀ (i : Nat) c, s[i]? = some c → inB c = true) → nmSz s = s.length
  | [], _ => rfl
  | c :: s, hI => by
    have := nmSz_all (s := s) fun i x hx => hI (i + 1) x (by simpa using hx)
    unfold nmSz at *
    rw [List.takeWhile_cons_of_pos (hI 0 c rfl), List.length_cons, List.length_cons, this]
-- 
theorem nmSz_abs (W : World) (s : By) (hs : s.length ≤ 1000000000) : AFun Tryz.prog W 54 [sv s] (.val (.i (nmSz s : Int))) := by
  refine afun_of (rs := [.i (nmSz s : Int)]) Tryz.func54 Tryz.ntmps54 rfl rfl rfl rfl ?_
  intro w U hW
  refine aS (aR ?_)
  (refine nx (aA (gN rfl) rfl rfl rfl rfl rfl) rfl ?_)
  show AWp _ _ _ _ _ _ _
  refine aS (aS (aR ?_))
  (refine nx (aM (gN rfl) rfl rfl rfl rfl rfl) rfl ?_)
  (refine nx (a_slen (gN rfl) rfl rfl rfl rfl rfl rfl rfl) rfl ?_)
  (refine nx (aM (gN rfl) rfl rfl rfl rfl rfl) rfl ?_)
  show AWp _ _ _ _ _ _ _
  refine aB (awp_countI s.length (fun k => ∀ (i : Nat) c, i < k → s[i]? = some c → inB c = true) (fun k => [(0, .val (sv s)), (5, .val (.i s.length)), (6, .val (.i k))]) (wk_sub ⟨rfl, rfl, rfl, trivial⟩) (fun i _ hi => by omega) ?_)
  intro k hk hI
  refine aS (aR ?_)
  (refine nx (a_lss (gN rfl) rfl rfl rfl rfl rfl rfl) rfl ?_)
  show AWp _ _ _ _ _ _ _
  refine aS (aC rfl (fun hlt => ?_) (fun hlt => ?_))
  · have hkl : k < s.length := by simpa using hlt
    obtain ⟨b, hb⟩ : ∃ b, s[k]? = some b := ⟨s[k], List.getElem?_eq_getElem hkl⟩
    refine aK ?_
    show AWp _ _ _ _ _ _ _
    refine aS (aB (aS (aR ?_)))
    (refine nx (aM (gN rfl) rfl rfl rfl rfl rfl) rfl ?_)
    (refine nx (aA (gN rfl) rfl rfl rfl rfl rfl) rfl ?_)
    show AWp _ _ _ _ _ _ _
    refine aS (aR ?_)
    (refine nx (aM (gN rfl) rfl rfl rfl rfl rfl) rfl ?_)
    (refine nx (aM (gN rfl) rfl rfl rfl rfl rfl) rfl ?_)
    (refine nx (a_sidx (k) (gN rfl) rfl rfl rfl rfl rfl rfl rfl (by first | rfl | omega | (simp only [List.length_set, List.length_map, List.length_append, List.length_cons, List.length_nil] <;> omega) | (simp <;> omega)) (hb)) rfl ?_)
    (refine nx (a_call (gN rfl) rfl rfl rfl rfl rfl (inB_abs w b)) rfl ?_)
    (refine nx (a_not (gN rfl) rfl rfl rfl rfl rfl) rfl ?_)
    show AWp _ _ _ _ _ _ _
    refine aC rfl (fun h => ?_) (fun h => aK ?_)
    · have h : inB b = false := by simpa using h
      rw [nmSz_at hI hb h]
      refine aS (aR ?_)
      (refine nx (aM (gN rfl) rfl rfl rfl rfl rfl) rfl ?_)
      (refine nx (aA (gN rfl) rfl rfl rfl rfl rfl) rfl ?_)
      show AWp _ _ _ _ _ _ _
      exact aT (And.intro (.inr rfl) rfl)
    · have h : inB b = true := by simpa using h
      show AWp _ _ _ _ _ _ _
      refine aR ?_
      (refine nx (a_add (gN rfl) rfl rfl rfl rfl rfl rfl (by first | omega | (simp only [List.length_map, List.length_append, List.length_cons, List.length_nil] <;> omega) | (simp <;> omega))) rfl ?_)
      (refine nx (aM (gN rfl) rfl rfl rfl rfl rfl) rfl ?_)
      refine ⟨hkl, fun i c hi hc => ?_, wk_sub ⟨rfl, rfl, rfl, trivial⟩⟩
      rcases Nat.lt_or_ge i k with h3 | h3
      · exact hI i c h3 hc
      · rw [show i = k by omega, hb] at hc
        cases hc
        exact h
  · have hkl : k = s.length := by
      have : ¬ k < s.length := by simpa using hlt
      omega
    subst hkl
    rw [nmSz_all fun i c hc => hI i c (by have := (List.getElem?_eq_some_iff.1 hc).1; omega) hc]
    refine aE ?_
    show AWp _ _ _ _ _ _ _
    refine aS (aR ?_)
    (refine nx (aM (gN rfl) rfl rfl rfl rfl rfl) rfl ?_)
    (refine nx (a_slen (gN rfl) rfl rfl rfl rfl rfl rfl rfl) rfl ?_)
    (refine nx (aA (gN rfl) rfl rfl rfl rfl rfl) rfl ?_)
    show AWp _ _ _ _ _ _ _
    exact aT (And.intro (.inr rfl) rfl)
-- 
theorem tkSz_abs (W : World) (s : By) (hs : s.length ≤ 1000000000) : AFun Tryz.prog W 41 [sv s] (.val (.i (tkSz s : Int))) := by
  refine afun_of (rs := [.i (tkSz s : Int)]) Tryz.func41 Tryz.ntmps41 rfl rfl rfl rfl ?_
  intro w U hW
  refine aS (aR ?_)
  (refine nx (aA (gN rfl) rfl rfl rfl rfl rfl) rfl ?_)
  show AWp _ _ _ _ _ _ _
  refine aS (aB (aS (aR ?_)))
  (refine nx (aM (gN rfl) rfl rfl rfl rfl rfl) rfl ?_)
  (refine nx (a_seql (gN rfl) rfl rfl rfl rfl rfl rfl rfl) rfl ?_)
  (refine nx (aA (gN rfl) rfl rfl rfl rfl rfl) rfl ?_)
  show AWp _ _ _ _ _ _ _
  refine aC rfl (fun h => ?_) (fun h => ?_)
  · have h : s = [] := of_decide_eq_true h
    have e : tkSz s = 0 := by unfold tkSz; rw [if_pos h]
    rw [e]
    refine aS (aR ?_)
    (refine nx (aA (gN rfl) rfl rfl rfl rfl rfl) rfl ?_)
    show AWp _ _ _ _ _ _ _
    exact aT (And.intro (.inr rfl) rfl)
  have hne : s ≠ [] := of_decide_eq_false h
  have c1 := isSm_abs w s hne
  have c2 := isGr_abs w s hne
  have name : (isSmL s || isGrL s) = true → tkSz s = nmSz s := fun h => by unfold tkSz; rw [if_neg hne, if_pos h]
  cases h1 : isSmL s with
  | true =>
    rw [h1] at c1
    rw [name (by rw [h1]; rfl)]
    refine aS (aR ?_)
    (refine nx (aM (gN rfl) rfl rfl rfl rfl rfl) rfl ?_)
    (refine nx (a_call (gN rfl) rfl rfl rfl rfl rfl (c1)) rfl ?_)
    (refine nx (aM (gN rfl) rfl rfl rfl rfl rfl) rfl ?_)
    (refine ⟨_, _, _, a_off (go_off rfl rfl rfl rfl (by first | rfl | assumption | (simp; done) | (simp [*]; done))) rfl rfl rfl, rfl, ?_⟩)
    (refine ⟨_, _, _, a_off (go_off rfl rfl rfl rfl (by first | rfl | assumption | (simp; done) | (simp [*]; done))) rfl rfl rfl, rfl, ?_⟩)
    (refine ⟨_, _, _, aPt (gN rfl) rfl rfl rfl rfl rfl ?hb rfl, rfl, ?_⟩; case hb => (first | rfl | assumption | (simp; done)))
    (refine nx (aA (gN rfl) rfl rfl rfl rfl rfl) rfl ?_)
    show AWp _ _ _ _ _ _ _
    refine aC rfl (fun h => ?_) (fun h => by cases h)
    refine aS (aR ?_)
    (refine nx (aM (gN rfl) rfl rfl rfl rfl rfl) rfl ?_)
    (refine nx (a_call (gN rfl) rfl rfl rfl rfl rfl (nmSz_abs w s hs)) rfl ?_)
    (refine nx (aA (gN rfl) rfl rfl rfl rfl rfl) rfl ?_)
    show AWp _ _ _ _ _ _ _
    exact aT (And.intro (.inr rfl) rfl)
  | false =>
  rw [h1] at c1
  refine aS (aR ?_)
  (refine nx (aM (gN rfl) rfl rfl rfl rfl rfl) rfl ?_)
  (refine nx (a_call (gN rfl) rfl rfl rfl rfl rfl (c1)) rfl ?_)
  (refine nx (aM (gN rfl) rfl rfl rfl rfl rfl) rfl ?_)
  (refine nx (aM (gd_on rfl rfl rfl rfl (by first | rfl | assumption | (simp; done))) rfl rfl rfl rfl rfl) rfl ?_)
  (refine nx (a_call (gd_on rfl rfl rfl rfl (by first | rfl | assumption | (simp; done))) rfl rfl rfl rfl rfl (c2)) rfl ?_)
  (refine ⟨_, _, _, aPf (gN rfl) rfl rfl rfl rfl rfl ?hb rfl, rfl, ?_⟩; case hb => (first | rfl | assumption | (simp; done)))
  (refine nx (aA (gN rfl) rfl rfl rfl rfl rfl) rfl ?_)
  show AWp _ _ _ _ _ _ _
  refine aC rfl (fun h => ?_) (fun h => ?_)
  · rw [name (by rw [h1]; exact h)]
    refine aS (aR ?_)
    (refine nx (aM (gN rfl) rfl rfl rfl rfl rfl) rfl ?_)
    (refine nx (a_call (gN rfl) rfl rfl rfl rfl rfl (nmSz_abs w s hs)) rfl ?_)
    (refine nx (aA (gN rfl) rfl rfl rfl rfl rfl) rfl ?_)
    show AWp _ _ _ _ _ _ _
    exact aT (And.intro (.inr rfl) rfl)
  have h2 : ¬ (isSmL s || isGrL s) = true := by rw [h1]; have h : isGrL s = false := h; rw [h]; simp
  refine aS (aR ?_)
  (refine nx (aM (gN rfl) rfl rfl rfl rfl rfl) rfl ?_)
  (refine nx (a_call (gN rfl) rfl rfl rfl rfl rfl (hasP_abs w s neverB)) rfl ?_)
  (refine nx (aA (gN rfl) rfl rfl rfl rfl rfl) rfl ?_)
  show AWp _ _ _ _ _ _ _
  refine aC rfl (fun h => ?_) (fun h => ?_)
  · have h : Lib.hasPrefix s neverB = true := h
    have e : tkSz s = 6 := by unfold tkSz; rw [if_neg hne, if_neg h2, if_pos h]
    rw [e]
    refine aS (aR ?_)
    (refine nx (aA (gN rfl) rfl rfl rfl rfl rfl) rfl ?_)
    show AWp _ _ _ _ _ _ _
    exact aT (And.intro (.inr rfl) rfl)
  have h3 : ¬ Lib.hasPrefix s neverB = true := by have h : Lib.hasPrefix s neverB = false := h; rw [h]; simp
  refine aS (aR ?_)
  (refine nx (aM (gN rfl) rfl rfl rfl rfl rfl) rfl ?_)
  (refine nx (a_call (gN rfl) rfl rfl rfl rfl rfl (hasP_abs w s unlB)) rfl ?_)
  (refine nx (aA (gN rfl) rfl rfl rfl rfl rfl) rfl ?_)
  show AWp _ _ _ _ _ _ _
  refine aC rfl (fun h => ?_) (fun h => ?_)
  · have h : Lib.hasPrefix s unlB = true := h
    have e : tkSz s = 2 := by unfold tkSz; rw [if_neg hne, if_neg h2, if_neg h3, if_pos h]
    rw [e]
    refine aS (aR ?_)
    (refine nx (aA (gN rfl) rfl rfl rfl rfl rfl) rfl ?_)
    show AWp _ _ _ _ _ _ _
    exact aT (And.intro (.inr rfl) rfl)
  have h4 : ¬ Lib.hasPrefix s unlB = true := by have h : Lib.hasPrefix s unlB = false := h; rw [h]; simp
  have e : tkSz s = 1 := by unfold tkSz; rw [if_neg hne, if_neg h2, if_neg h3, if_neg h4]
  rw [e]
  refine aK ?_
  show AWp _ _ _ _ _ _ _
  refine aS (aR ?_)
  (refine nx (aA (gN rfl) rfl rfl rfl rfl rfl) rfl ?_)
  show AWp _ _ _ _ _ _ _
  exact aT (And.intro (.inr rfl) rfl)
-- 
theorem bh_abs (W : World) (s : By) (hs : s.length ≤ 1000000000) : AFun Tryz.prog W 40 [sv s] (.val (sv (bh s))) := by
  refine afun_of (rs := [sv (bh s)]) Tryz.func40 Tryz.ntmps40 rfl rfl rfl rfl ?_
  intro w U hW
  refine aS (aR ?_)
  (refine nx (aA (gN rfl) rfl rfl rfl rfl rfl) rfl ?_)
  show AWp _ _ _ _ _ _ _
  refine aB (awp_loop (fun m st => ∃ c, c.length ≤ 1000000000 ∧ bhN m c = some (bh s) ∧ st = [(0, .val (sv c))]) (n := s.length + 1) (s' := [(0, .val (sv s))]) (wk_sub ⟨rfl, trivial⟩) ⟨s, hs, (bh_eq s).1, rfl⟩ ?_)
  rintro m st ⟨c, hc, hm, rfl⟩
  obtain ⟨m, rfl⟩ : ∃ k, m = k + 1 := by
    cases m with
    | zero => cases hm
    | succ m => exact ⟨m, rfl⟩
  have htl := trm_len c
  unfold bhN at hm
  refine aB (aS (aR ?_))
  (refine nx (aM (gN rfl) rfl rfl rfl rfl rfl) rfl ?_)
  (refine nx (a_call (gN rfl) rfl rfl rfl rfl rfl (trim_abs w c)) rfl ?_)
  (refine nx (aA (gN rfl) rfl rfl rfl rfl rfl) rfl ?_)
  show AWp _ _ _ _ _ _ _
  refine aS (aS (aR ?_))
  (refine nx (aM (gN rfl) rfl rfl rfl rfl rfl) rfl ?_)
  (refine nx (a_call (gN rfl) rfl rfl rfl rfl rfl (hasP_abs w (trm c) [37])) rfl ?_)
  (refine nx (a_not (gN rfl) rfl rfl rfl rfl rfl) rfl ?_)
  show AWp _ _ _ _ _ _ _
  refine aC rfl (fun h => ?_) (fun h => aK ?_)
  · have h : Lib.hasPrefix (trm c) [37] = false := by simpa using h
    rw [h] at hm
    simp only [Bool.false_eq_true, if_false, Option.some.injEq] at hm
    rw [← hm]
    refine aS (aR ?_)
    (refine nx (aM (gN rfl) rfl rfl rfl rfl rfl) rfl ?_)
    (refine nx (aA (gN rfl) rfl rfl rfl rfl rfl) rfl ?_)
    show AWp _ _ _ _ _ _ _
    exact aT (And.intro (.inr rfl) rfl)
  · have h : Lib.hasPrefix (trm c) [37] = true := by simpa using h
    rw [if_pos h] at hm
    have hnl := behNl_len (trm c)
    obtain ⟨p, q, hcut⟩ := cut_abs w (trm c) (by omega)
    show AWp _ _ _ _ _ _ _
    refine aR ?_
    (refine nx (aM (gN rfl) rfl rfl rfl rfl rfl) rfl ?_)
    (refine nx (a_call (gN rfl) rfl rfl rfl rfl rfl (hcut)) rfl ?_)
    (refine nx (aM (gN rfl) rfl rfl rfl rfl rfl) rfl ?_)
    (refine nx (aX (gN rfl) rfl rfl rfl rfl rfl rfl) rfl ?_)
    (refine nx (aX (gN rfl) rfl rfl rfl rfl rfl rfl) rfl ?_)
    (refine nx (aX (gN rfl) rfl rfl rfl rfl rfl rfl) rfl ?_)
    (refine nx (aA (gN rfl) rfl rfl rfl rfl rfl) rfl ?_)
    exact ⟨m, _, by omega, ⟨behNl (trm c), by omega, hm, rfl⟩, wk_sub ⟨rfl, trivial⟩⟩
end Go.Proofs.YtebhbnhijnpmcaaGreatDoor

namespace Go.Proofs.YtebhbnhijnpmcaaGreatDoor
open Go.RowKit Go.MapKept
open Go.ChangeMaps (setBlock)
set_option linter.unusedVariables false
set_option linter.unusedSimpArgs false
section
variable {P : Program} {w0 : World} {U0 : UX} {nt : Nat} {ops : Array Oper} {o : Oper} {S : Nat → Option AV} {gs : List Nat} {d : Nat} {s : AS} {a : Act} {w : World} {D : Nat → Nat → Prop} {hv : Nat → Value}

abbrev AV.stm (l : List CV) (b clock : Nat) (bs : List Nat) : AV := ⟨22, .lst l, 0, 0, b :: clock :: bs⟩
abbrev AV.itr (b since c0 : Nat) (seen : List Nat) : AV := ⟨21, .row [], 0, 0, b :: since :: c0 :: seen⟩

end
end Go.Proofs.YtebhbnhijnpmcaaGreatDoor
namespace Go.Proofs.YtebhbnhijnpmcaaGreatDoor
open Go.RowKit Go.MapKept
set_option linter.unusedVariables false
set_option linter.unusedSimpArgs false
def AFunE {Sg : Type} (P : Program) (f : FuncId) (pre : AS) (args : List AV) (R : Sg → Prop) (r : Sg → AV) (post : Sg → AS) : Prop :=
  EntF P f ∧ ∀ (U : UX) (w : World) (hv : Nat → Value) (a0 : Act) (vs : List Value), (∀ k v, U.f k = some v → hasN (kO pre) k = true) → SimG w U 0 pre a0 w (fun _ _ => False) hv → AVReps (Us w U (fun _ _ => False)) w hv (LiveN pre) args vs →
    Calls P f vs.toArray w fun e w' => ∃ σ, R σ ∧ ∃ v D' hv' a', e = .returned v ∧ SimG w U 0 (post σ) a' w' D' hv' ∧ AVRep (Us w U D') w' hv' (LiveN (post σ)) (r σ) v
section
variable {P : Program} {w0 : World} {U0 : UX} {nt : Nat} {ops : Array Oper} {o : Oper} {S : Nat → Option AV} {gs : List Nat} {d : Nat} {s : AS} {a : Act} {w : World} {D : Nat → Nat → Prop} {hv : Nat → Value}
theorem a_lenMp (hg : Gd w0 U0 nt ops o gs S) (hd : o.dst = some d) (hn : Nat.blt d nt = true) (h5 : Nat.blt d 100000 = true) {x : Operand} {ts : Array TypeId} {t kt et : TypeId} {n : Nat} {l : List CV} (ho : o.op = .call { callee := .builtin .len, args := #[x], argTypes := ts }) (ht : ts[0]? = some t) (hu : P.underlying t = some (.map kt et)) (hx : ev S x = some (.mref n)) (hm' : S n = some (.mp l)) : AOp P w0 U0 nt ops o (gs ++ (rd x ++ [n])) [] S [(d, .val (.i l.length))] :=
  aop_val hg hd hn h5 (fun k hk => List.mem_append_left _ hk) fun s hs a w D hv hm => by
    obtain ⟨hrn, h1, _⟩ : RN n ∧ a.eval x = hv n ∧ (a.eval x).oneCell' = true := ev_rep hm (fun k hk => hs k (List.mem_append_right _ (List.mem_append_left _ hk))) hx
    have hok : oKey n := by unfold RN at hrn; unfold oKey; omega
    obtain ⟨g, es, clock, g1, g2, g3, g4, g5⟩ : ∃ g es clock, hv n = .map (some g) ∧ w.heap[g]? = some (.map es clock) ∧ Ents (Us w0 U0 D) w l es.toList ∧ (∀ e ∈ es, e.born < clock) ∧ (es.toList.map (fun e : MapEntry => e.born)).Nodup := hm.obj n _ ((hs n (by simp)).trans hm') hok
    rw [g1] at h1
    have hge := Go.MapKept.run_getObj_map (P := P) g2
    have hlen : es.size = l.length := by have := ents_len g3; simpa using this
    refine ⟨.int .i64 (l.length : Int), ?_, avrep_sc rfl⟩
    generalize a.eval = ρ at h1 ⊢
    simp [execOp, ho, resolve, invoke, builtin, Builtin.len_, ht, h1, hge, hlen, goInt, run_underlying hu, go_sem]
end
end Go.Proofs.YtebhbnhijnpmcaaGreatDoor
-- @STR@
namespace Go.Proofs.YtebhbnhijnpmcaaGreatDoor
open Go.RowKit
set_option linter.unusedVariables false
set_option linter.unusedSimpArgs false
set_option maxRecDepth 100000

def idxS (l : List By) (s : By) : Int := match l.findIdx? (fun x => decide (s = x)) with | some i => (i : Int) | none => -1
-- 
theorem idxS_abs (l : List By) (s : By) (hl : l.length ≤ 1000000) : AFunO Tryz.prog 79 [(400000, .mrow 9 1 (l.map sv))] [.sl 400000 0 l.length 1, .val (sv s)] (.val (.i (idxS l s))) [(400000, .mrow 9 1 (l.map sv))] := by
  obtain ⟨R, hR⟩ : ∃ R, R = idxS l s := ⟨_, rfl⟩
  rw [← hR]
  unfold idxS at hR
  refine afunO_of Tryz.func79 Tryz.ntmps79 rfl rfl rfl rfl rfl rfl ?_
  intro w U hU
  refine aS (aR ?_)
  (refine nx (aA (gN rfl) rfl rfl rfl rfl rfl) rfl ?_)
  show AWp _ _ _ _ _ _ _
  refine aS (aS (aR ?_))
  (refine nx (aM (gN rfl) rfl rfl rfl rfl rfl) rfl ?_)
  (refine nx (a_lenM (gN rfl) rfl rfl rfl rfl rfl rfl rfl) rfl ?_)
  (refine nx (aM (gN rfl) rfl rfl rfl rfl rfl) rfl ?_)
  show AWp _ _ _ _ _ _ _
  refine aB (awp_countI l.length (fun k => ∀ x ∈ l.take k, decide (s = x) = false) (fun k => [(0, .sl 400000 0 l.length 1), (1, .val (sv s)), (7, .val (.i l.length)), (8, .val (.i k)), (400000, .mrow 9 1 (l.map sv))]) (wk_sub ⟨rfl, rfl, rfl, rfl, rfl, trivial⟩) (by simp) ?_)
  intro k hk hI
  refine aS (aR ?_)
  (refine nx (a_lss (gN rfl) rfl rfl rfl rfl rfl rfl) rfl ?_)
  show AWp _ _ _ _ _ _ _
  refine aS (aC rfl (fun hlt => ?_) (fun hlt => ?_))
  · have hkl : k < l.length := by simpa using hlt
    obtain ⟨x, hx⟩ : ∃ x, l[k]? = some x := ⟨l[k], List.getElem?_eq_getElem hkl⟩
    have hx' := sv_at hx
    refine aK ?_
    show AWp _ _ _ _ _ _ _
    refine aS (aB (aS (aR ?_)))
    (refine nx (aM (gN rfl) rfl rfl rfl rfl rfl) rfl ?_)
    (refine nx (aA (gN rfl) rfl rfl rfl rfl rfl) rfl ?_)
    show AWp _ _ _ _ _ _ _
    refine aS (aR ?_)
    (refine nx (aM (gN rfl) rfl rfl rfl rfl rfl) rfl ?_)
    (refine nx (aM (gN rfl) rfl rfl rfl rfl rfl) rfl ?_)
    (refine nx (aM (gN rfl) rfl rfl rfl rfl rfl) rfl ?_)
    (refine nx (aIm (k := k) (gN rfl) rfl rfl rfl rfl rfl rfl rfl rfl rfl (by first | rfl | omega | (simp only [List.length_set, List.length_map, List.length_append, List.length_cons, List.length_nil] <;> omega) | (simp <;> omega))) rfl ?_)
    (refine nx (a_loadM (gN rfl) rfl rfl rfl rfl rfl rfl rfl rfl (hx') rfl (by first | rfl | omega | (simp only [List.length_set, List.length_map, List.length_append, List.length_cons, List.length_nil] <;> omega) | (simp <;> omega)) rfl rfl) rfl ?_)
    (refine nx (a_seql (gN rfl) rfl rfl rfl rfl rfl rfl rfl) rfl ?_)
    show AWp _ _ _ _ _ _ _
    refine aC rfl (fun hp => ?_) (fun hp => ?_)
    · have hRk : R = k := by
        rw [hR]
        have : l.findIdx? (fun x => decide (s = x)) = some k := by
          rw [List.findIdx?_eq_some_iff_getElem]
          obtain ⟨hk2, e⟩ := List.getElem?_eq_some_iff.1 hx
          refine ⟨hk2, by rw [e]; exact hp, fun j hj => ?_⟩
          have := hI l[j] (List.mem_take_iff_getElem.2 ⟨j, by omega, rfl⟩)
          simpa using this
        rw [this]
      rw [hRk]
      refine aS (aR ?_)
      (refine nx (aM (gN rfl) rfl rfl rfl rfl rfl) rfl ?_)
      (refine nx (aA (gN rfl) rfl rfl rfl rfl rfl) rfl ?_)
      show AWp _ _ _ _ _ _ _
      exact aT ⟨.inr rfl, _, Wk.refl _, rfl, rfl, trivial⟩
    · refine aK ?_
      show AWp _ _ _ _ _ _ _
      refine aR ?_
      (refine nx (a_add (gN rfl) rfl rfl rfl rfl rfl rfl (by first | omega | (simp only [List.length_map, List.length_append, List.length_cons, List.length_nil] <;> omega) | (simp <;> omega))) rfl ?_)
      (refine nx (aM (gN rfl) rfl rfl rfl rfl rfl) rfl ?_)
      refine ⟨hkl, ?_, wk_sub ⟨rfl, rfl, rfl, rfl, rfl, trivial⟩⟩
      intro y hy
      rw [List.take_add_one, hx, List.mem_append] at hy
      rcases hy with hy | hy
      · exact hI y hy
      · simp at hy; rw [hy]; exact hp
  · have hkl : k = l.length := by
      have : ¬ k < l.length := by simpa using hlt
      omega
    subst hkl
    rw [List.take_length] at hI
    have hRn : R = -1 := by
      rw [hR, List.findIdx?_eq_none_iff.2 fun x hx => by rw [hI x hx]]
    rw [hRn]
    refine aE ?_
    show AWp _ _ _ _ _ _ _
    refine aS (aR ?_)
    (refine nx (aA (gN rfl) rfl rfl rfl rfl rfl) rfl ?_)
    show AWp _ _ _ _ _ _ _
    exact aT ⟨.inr rfl, _, Wk.refl _, rfl, rfl, trivial⟩
theorem idxS_mem (l : List By) (s : By) : decide (idxS l s ≥ 0) = decide (s ∈ l) := by
  unfold idxS
  cases h : l.findIdx? (fun x => decide (s = x)) with
  | none =>
    have h1 := List.findIdx?_eq_none_iff.1 h
    have : ¬ s ∈ l := fun hm => by have := h1 s hm; simp at this
    simp [this]
  | some i =>
    obtain ⟨hi, hp, _⟩ := List.findIdx?_eq_some_iff_getElem.1 h
    have : s ∈ l := by
      have hp : s = l[i] := by simpa using hp
      rw [hp]; exact List.getElem_mem hi
    simp [this]
-- 
theorem conS_abs (l : List By) (s : By) (hl : l.length ≤ 1000000) : AFunO Tryz.prog 71 [(400000, .mrow 9 1 (l.map sv))] [.sl 400000 0 l.length 1, .val (sv s)] (.val (.b (decide (s ∈ l)))) [(400000, .mrow 9 1 (l.map sv))] := by
  have h := idxS_abs l s hl
  rw [← idxS_mem]
  refine afunO_of Tryz.func71 Tryz.ntmps71 rfl rfl rfl rfl rfl rfl ?_
  intro w U hU
  refine aS (aR ?_)
  (refine nx (aA (gN rfl) rfl rfl rfl rfl rfl) rfl ?_)
  show AWp _ _ _ _ _ _ _
  refine aS (aR ?_)
  (refine nx (aM (gN rfl) rfl rfl rfl rfl rfl) rfl ?_)
  (refine nx (aM (gN rfl) rfl rfl rfl rfl rfl) rfl ?_)
  (refine nx (a_callO (gN rfl) rfl rfl rfl rfl rfl (h) (by repeat (first | exact trivial | refine ⟨rfl, ?_⟩)) (by first | rfl | kernel_rfl) (by first | rfl | kernel_rfl) (by first | rfl | kernel_rfl) (by first | rfl | kernel_rfl) (hnb_of (by first | rfl | kernel_rfl))) rfl ?_)
  (refine nx (a_geq (gN rfl) rfl rfl rfl rfl rfl rfl) rfl ?_)
  (refine nx (aA (gN rfl) rfl rfl rfl rfl rfl) rfl ?_)
  show AWp _ _ _ _ _ _ _
  exact aT ⟨.inr rfl, _, Wk.refl _, rfl, rfl, trivial⟩
-- 
set_option maxHeartbeats 1000000 in
theorem var_abs (st : Nm) (v : By) (h : st.ok) (hv : v.length ≤ 1000000) (hl : st.vr.length < 1000000) : AFunO Tryz.prog 59 (nmS st) [.bp 350001 0 [], .val (sv v)] (.val (.i ((varF st v).1 : Nat))) (nmS (varF st v).2) := by
  have hgk := good_str v (by omega)
  unfold varF
  cases hf : lkA st.vr v with
  | some i =>
    obtain ⟨y1, y2⟩ := vr_yes h hf
    refine afunO_of Tryz.func59 Tryz.ntmps59 rfl rfl rfl rfl rfl rfl ?_
    intro w U hU
    refine aS (aR ?_)
    (refine nx (aA (gN rfl) rfl rfl rfl rfl rfl) rfl ?_)
    show AWp _ _ _ _ _ _ _
    refine aS (aR ?_)
    (refine nx (aM (gN rfl) rfl rfl rfl rfl rfl) rfl ?_)
    (refine nx (aNc (gN rfl) rfl rfl rfl rfl rfl) rfl ?_)
    (refine nx (aF (gN rfl) rfl rfl rfl rfl rfl rfl rfl rfl rfl) rfl ?_)
    (refine nx (aLf (gN rfl) rfl rfl rfl rfl rfl rfl rfl rfl rfl rfl rfl rfl rfl) rfl ?_)
    (refine nx (aM (gN rfl) rfl rfl rfl rfl rfl) rfl ?_)
    (refine nx (a_lookK (gN rfl) rfl rfl rfl rfl rfl rfl rfl rfl (sv_is) (K_str) (hgk) (vr_keysP h) (y1) (y2)) rfl ?_)
    (refine nx (aM (gN rfl) rfl rfl rfl rfl rfl) rfl ?_)
    (refine nx (aX (gN rfl) rfl rfl rfl rfl rfl rfl) rfl ?_)
    (refine nx (aX (gN rfl) rfl rfl rfl rfl rfl rfl) rfl ?_)
    (refine nx (aA (gN rfl) rfl rfl rfl rfl rfl) rfl ?_)
    (refine nx (aA (gN rfl) rfl rfl rfl rfl rfl) rfl ?_)
    show AWp _ _ _ _ _ _ _
    refine aS (aS (aR ?_))
    (refine nx (aM (gN rfl) rfl rfl rfl rfl rfl) rfl ?_)
    (refine nx (a_not (gN rfl) rfl rfl rfl rfl rfl) rfl ?_)
    show AWp _ _ _ _ _ _ _
    refine aC rfl (fun hc => by cases hc) (fun hc => aK ?_)
    show AWp _ _ _ _ _ _ _
    refine aS (aR ?_)
    (refine nx (aM (gN rfl) rfl rfl rfl rfl rfl) rfl ?_)
    (refine nx (aA (gN rfl) rfl rfl rfl rfl rfl) rfl ?_)
    show AWp _ _ _ _ _ _ _
    exact aT ⟨.inr rfl, _, Wk.refl _, rfl, rfl, rfl, rfl, rfl, rfl, rfl, rfl, rfl, rfl, rfl, rfl, trivial⟩
  | none =>
    have hno := vr_no hf
    have hlm : (st.vr.map vrv).length = st.vr.length := List.length_map ..
    refine afunO_of Tryz.func59 Tryz.ntmps59 rfl rfl rfl rfl rfl rfl ?_
    intro w U hU
    refine aS (aR ?_)
    (refine nx (aA (gN rfl) rfl rfl rfl rfl rfl) rfl ?_)
    show AWp _ _ _ _ _ _ _
    refine aS (aR ?_)
    (refine nx (aM (gN rfl) rfl rfl rfl rfl rfl) rfl ?_)
    (refine nx (aNc (gN rfl) rfl rfl rfl rfl rfl) rfl ?_)
    (refine nx (aF (gN rfl) rfl rfl rfl rfl rfl rfl rfl rfl rfl) rfl ?_)
    (refine nx (aLf (gN rfl) rfl rfl rfl rfl rfl rfl rfl rfl rfl rfl rfl rfl rfl) rfl ?_)
    (refine nx (aM (gN rfl) rfl rfl rfl rfl rfl) rfl ?_)
    (refine nx (a_lookKn (gN rfl) rfl rfl rfl rfl rfl rfl rfl rfl rfl (sv_is) (K_str) (hgk) (vr_keysP h) (hno)) rfl ?_)
    (refine nx (aM (gN rfl) rfl rfl rfl rfl rfl) rfl ?_)
    (refine nx (aX (gN rfl) rfl rfl rfl rfl rfl rfl) rfl ?_)
    (refine nx (aX (gN rfl) rfl rfl rfl rfl rfl rfl) rfl ?_)
    (refine nx (aA (gN rfl) rfl rfl rfl rfl rfl) rfl ?_)
    (refine nx (aA (gN rfl) rfl rfl rfl rfl rfl) rfl ?_)
    show AWp _ _ _ _ _ _ _
    refine aS (aS (aR ?_))
    (refine nx (aM (gN rfl) rfl rfl rfl rfl rfl) rfl ?_)
    (refine nx (a_not (gN rfl) rfl rfl rfl rfl rfl) rfl ?_)
    show AWp _ _ _ _ _ _ _
    refine aC rfl (fun hc => ?_) (fun hc => by cases hc)
    refine aS (aR ?_)
    (refine nx (aM (gN rfl) rfl rfl rfl rfl rfl) rfl ?_)
    (refine nx (aNc (gN rfl) rfl rfl rfl rfl rfl) rfl ?_)
    (refine nx (aF (gN rfl) rfl rfl rfl rfl rfl rfl rfl rfl rfl) rfl ?_)
    (refine nx (aLf (gN rfl) rfl rfl rfl rfl rfl rfl rfl rfl rfl rfl rfl rfl rfl) rfl ?_)
    (refine nx (a_lenMp (gN rfl) rfl rfl rfl rfl rfl rfl rfl rfl) rfl ?_)
    (refine nx (aA (gN rfl) rfl rfl rfl rfl rfl) rfl ?_)
    show AWp _ _ _ _ _ _ _
    refine aR ?_
    (refine nx (aM (gN rfl) rfl rfl rfl rfl rfl) rfl ?_)
    (refine nx (aNc (gN rfl) rfl rfl rfl rfl rfl) rfl ?_)
    (refine nx (aF (gN rfl) rfl rfl rfl rfl rfl rfl rfl rfl rfl) rfl ?_)
    (refine nx (aLf (gN rfl) rfl rfl rfl rfl rfl rfl rfl rfl rfl rfl rfl rfl rfl) rfl ?_)
    (refine nx (aM (gN rfl) rfl rfl rfl rfl rfl) rfl ?_)
    (refine nx (aM (gN rfl) rfl rfl rfl rfl rfl) rfl ?_)
    (refine nx (a_putK (gN rfl) rfl rfl rfl rfl rfl rfl rfl (sv_is) (K_str) (hgk) (vr_keysP h) (hno)) rfl ?_)
    show AWp _ _ _ _ _ _ _
    refine aS (aR ?_)
    (refine nx (aM (gN rfl) rfl rfl rfl rfl rfl) rfl ?_)
    (refine nx (aA (gN rfl) rfl rfl rfl rfl rfl) rfl ?_)
    show AWp _ _ _ _ _ _ _
    refine aT ⟨.inr rfl, _, Wk.refl _, by rw [← hlm]; rfl, rfl, rfl, rfl, rfl, rfl, rfl, rfl, rfl, rfl, rfl, ?_, trivial⟩
    rw [List.map_append, ← hlm]
    rfl
-- 
set_option maxHeartbeats 2000000 in
theorem num_abs (st : Nm) (k : Kd) (h : st.ok) (hk : k.1.length ≤ 1000000 ∧ k.2.1 ≤ 1000000) : AFunO Tryz.prog 58 (nmS st) [.bp 350001 0 [], .val (.row [sv k.1, .i (k.2.1 : Int), .b k.2.2])] (.tup [.i ((numF st k).1 : Nat), .b (numF st k).2.1]) (nmS (numF st k).2.2) := by
  have hgk := good_kind k.1 k.2.1 k.2.2 (by omega) (by omega)
  obtain ⟨knm, kpt, kpr⟩ := k
  simp only at hk hgk ⊢
  unfold numF
  cases hf : lkA st.sy (knm, kpt, kpr) with
  | some i =>
    obtain ⟨y1, y2⟩ := sy_yes h hf
    simp only at y1 y2
    refine afunO_of Tryz.func58 Tryz.ntmps58 rfl rfl rfl rfl rfl rfl ?_
    intro w U hU
    refine aS (aR ?_)
    (refine nx (a_box (gN rfl) rfl rfl rfl rfl rfl) (by kernel_rfl) ?_)
    (refine nx (aA (gN rfl) rfl rfl rfl rfl rfl) rfl ?_)
    (refine nx (aA (gN rfl) rfl rfl rfl rfl rfl) rfl ?_)
    show AWp _ _ _ _ _ _ _
    refine aS (aS (aD (by kernel_rfl) (by kernel_rfl) ?_))
    (refine nx (aM (gN rfl) rfl rfl rfl rfl rfl) rfl ?_)
    (refine nx (aNc (gN rfl) rfl rfl rfl rfl rfl) rfl ?_)
    (refine nx (aF (gN rfl) rfl rfl rfl rfl rfl rfl rfl rfl rfl) rfl ?_)
    (refine nx (aLf (gN rfl) rfl rfl rfl rfl rfl rfl rfl rfl rfl rfl rfl rfl rfl) rfl ?_)
    (refine nx (aL (gN rfl) rfl rfl rfl rfl rfl rfl rfl rfl rfl rfl rfl rfl) rfl ?_)
    (refine nx (a_lookK (gN rfl) rfl rfl rfl rfl rfl rfl rfl rfl (kd_is) (K_kind) (hgk) (sy_keys h) (y1) (y2)) rfl ?_)
    (refine nx (aM (gN rfl) rfl rfl rfl rfl rfl) rfl ?_)
    (refine nx (aX (gN rfl) rfl rfl rfl rfl rfl rfl) rfl ?_)
    (refine nx (aX (gN rfl) rfl rfl rfl rfl rfl rfl) rfl ?_)
    (refine nx (aA (gN rfl) rfl rfl rfl rfl rfl) rfl ?_)
    (refine nx (aA (gN rfl) rfl rfl rfl rfl rfl) rfl ?_)
    refine ⟨by kernel_rfl, ?_⟩
    show AWp _ _ _ _ _ _ _
    refine aS (aR ?_)
    (refine nx (aM (gN rfl) rfl rfl rfl rfl rfl) rfl ?_)
    show AWp _ _ _ _ _ _ _
    refine aC rfl (fun hc => ?_) (fun hc => by cases hc)
    refine aS (aR ?_)
    (refine nx (aM (gN rfl) rfl rfl rfl rfl rfl) rfl ?_)
    (refine nx (aA (gN rfl) rfl rfl rfl rfl rfl) rfl ?_)
    (refine nx (aA (gN rfl) rfl rfl rfl rfl rfl) rfl ?_)
    show AWp _ _ _ _ _ _ _
    exact aT ⟨.inr rfl, _, Wk.refl _, rfl, rfl, rfl, rfl, rfl, rfl, rfl, rfl, rfl, rfl, rfl, rfl, trivial⟩
  | none =>
  have hno := sy_no hf
  simp only at hno
  have hsm := h.small
  have hco := conS_abs st.sg.nm knm (by omega)
  refine afunO_of Tryz.func58 Tryz.ntmps58 rfl rfl rfl rfl rfl rfl ?_
  intro w U hU
  have hUf : U.f 400000 = none := by
    cases hh : U.f 400000 with
    | none => rfl
    | some x => have := hU _ _ hh; cases this
  have hUb : U.f 300001 = none := by
    cases hh : U.f 300001 with
    | none => rfl
    | some x => have := (U.hf _ _ hh).1; omega
  refine aS (aR ?_)
  (refine nx (a_box (gN rfl) rfl rfl rfl rfl rfl) (by kernel_rfl) ?_)
  (refine nx (aA (gN rfl) rfl rfl rfl rfl rfl) rfl ?_)
  (refine nx (aA (gN rfl) rfl rfl rfl rfl rfl) rfl ?_)
  show AWp _ _ _ _ _ _ _
  refine aS (aS (aD (by kernel_rfl) (by kernel_rfl) ?_))
  (refine nx (aM (gN rfl) rfl rfl rfl rfl rfl) rfl ?_)
  (refine nx (aNc (gN rfl) rfl rfl rfl rfl rfl) rfl ?_)
  (refine nx (aF (gN rfl) rfl rfl rfl rfl rfl rfl rfl rfl rfl) rfl ?_)
  (refine nx (aLf (gN rfl) rfl rfl rfl rfl rfl rfl rfl rfl rfl rfl rfl rfl rfl) rfl ?_)
  (refine nx (aL (gN rfl) rfl rfl rfl rfl rfl rfl rfl rfl rfl rfl rfl rfl) rfl ?_)
  (refine nx (a_lookKn (gN rfl) rfl rfl rfl rfl rfl rfl rfl rfl rfl (kd_is) (K_kind) (hgk) (sy_keys h) (hno)) rfl ?_)
  (refine nx (aM (gN rfl) rfl rfl rfl rfl rfl) rfl ?_)
  (refine nx (aX (gN rfl) rfl rfl rfl rfl rfl rfl) rfl ?_)
  (refine nx (aX (gN rfl) rfl rfl rfl rfl rfl rfl) rfl ?_)
  (refine nx (aA (gN rfl) rfl rfl rfl rfl rfl) rfl ?_)
  (refine nx (aA (gN rfl) rfl rfl rfl rfl rfl) rfl ?_)
  refine ⟨by kernel_rfl, ?_⟩
  show AWp _ _ _ _ _ _ _
  refine aS (aR ?_)
  (refine nx (aM (gN rfl) rfl rfl rfl rfl rfl) rfl ?_)
  show AWp _ _ _ _ _ _ _
  refine aC rfl (fun hc => by cases hc) (fun hc => aK ?_)
  show AWp _ _ _ _ _ _ _
  refine aS (aR ?_)
  (refine nx (aM (gN rfl) rfl rfl rfl rfl rfl) rfl ?_)
  (refine nx (aNc (gN rfl) rfl rfl rfl rfl rfl) rfl ?_)
  (refine nx (aF (gN rfl) rfl rfl rfl rfl rfl rfl rfl rfl rfl) rfl ?_)
  (refine nx (aF (gN rfl) rfl rfl rfl rfl rfl rfl rfl rfl rfl) rfl ?_)
  (refine nx (aLf (gN rfl) rfl rfl rfl rfl rfl rfl rfl rfl rfl rfl rfl rfl rfl) rfl ?_)
  (refine nx (a_lenM (gN rfl) rfl rfl rfl rfl rfl rfl rfl) rfl ?_)
  (refine nx (aA (gN rfl) rfl rfl rfl rfl rfl) rfl ?_)
  show AWp _ _ _ _ _ _ _
  refine AWp.wk (wk_sub (s' := (0, .bp 350001 0 []) :: (3, .bp 3 0 []) :: (100003, .bx (.row [sv knm, .i (kpt : Int), .b kpr])) :: (8, .val (.i (st.sg.nm.length : Int))) :: nmS st) ⟨rfl, rfl, rfl, rfl, rfl, rfl, rfl, rfl, rfl, rfl, rfl, rfl, rfl, rfl, rfl, trivial⟩) ?_
  by_cases hbig : 200 < st.sg.nm.length
  · have g : decide ((st.sg.nm.length : Int) > 200) = true := by rw [decide_eq_true_eq]; omega
    rw [if_pos (.inl hbig)]
    refine aS (aS (aD (by kernel_rfl) (by kernel_rfl) ?_))
    (refine nx (aM (gN rfl) rfl rfl rfl rfl rfl) rfl ?_)
    (refine nx (a_gtr (gN rfl) rfl rfl rfl rfl rfl rfl) rfl ?_)
    (refine nx (aM (gN rfl) rfl rfl rfl rfl rfl) rfl ?_)
    (refine ⟨_, _, _, a_off (go_off rfl rfl rfl rfl (by first | rfl | assumption | (simp; done) | (simp [*]; done))) rfl rfl rfl, rfl, ?_⟩)
    (refine ⟨_, _, _, a_off (go_off rfl rfl rfl rfl (by first | rfl | assumption | (simp; done) | (simp [*]; done))) rfl rfl rfl, rfl, ?_⟩)
    (refine ⟨_, _, _, a_off (go_off rfl rfl rfl rfl (by first | rfl | assumption | (simp; done) | (simp [*]; done))) rfl rfl rfl, rfl, ?_⟩)
    (refine ⟨_, _, _, a_off (go_off rfl rfl rfl rfl (by first | rfl | assumption | (simp; done) | (simp [*]; done))) rfl rfl rfl, rfl, ?_⟩)
    (refine ⟨_, _, _, a_off (go_off rfl rfl rfl rfl (by first | rfl | assumption | (simp; done) | (simp [*]; done))) rfl rfl rfl, rfl, ?_⟩)
    (refine ⟨_, _, _, a_off (go_off rfl rfl rfl rfl (by first | rfl | assumption | (simp; done) | (simp [*]; done))) rfl rfl rfl, rfl, ?_⟩)
    (refine ⟨_, _, _, a_off (go_off rfl rfl rfl rfl (by first | rfl | assumption | (simp; done) | (simp [*]; done))) rfl rfl rfl, rfl, ?_⟩)
    (refine ⟨_, _, _, a_off (go_off rfl rfl rfl rfl (by first | rfl | assumption | (simp; done) | (simp [*]; done))) rfl rfl rfl, rfl, ?_⟩)
    (refine ⟨_, _, _, aPt (gN rfl) rfl rfl rfl rfl rfl ?hb rfl, rfl, ?_⟩; case hb => (first | rfl | assumption | (simp; done)))
    refine ⟨by kernel_rfl, ?_⟩
    show AWp _ _ _ _ _ _ _
    refine aC rfl (fun hc => ?_) (fun hc => by cases hc)
    refine aS (aR ?_)
    (refine nx (aA (gN rfl) rfl rfl rfl rfl rfl) rfl ?_)
    (refine nx (aA (gN rfl) rfl rfl rfl rfl rfl) rfl ?_)
    show AWp _ _ _ _ _ _ _
    exact aT ⟨.inr rfl, _, Wk.refl _, rfl, rfl, rfl, rfl, rfl, rfl, rfl, rfl, rfl, rfl, rfl, rfl, trivial⟩
  have g : decide ((st.sg.nm.length : Int) > 200) = false := by rw [decide_eq_false_iff_not]; omega
  refine AWp.wk (wk_renF 300001 400000 rfl rfl hUf (by kernel_rfl) (by kernel_rfl) (by kernel_rfl)) ?_
  by_cases hin : knm ∈ st.sg.nm
  · rw [if_pos (.inr hin)]
    rw [decide_eq_true hin] at hco
    refine aS (aS (aD (by kernel_rfl) (by kernel_rfl) ?_))
    (refine nx (aM (gN rfl) rfl rfl rfl rfl rfl) rfl ?_)
    (refine nx (a_gtr (gN rfl) rfl rfl rfl rfl rfl rfl) rfl ?_)
    (refine nx (aM (gN rfl) rfl rfl rfl rfl rfl) rfl ?_)
    (refine nx (aM (gd_on rfl rfl rfl rfl (by first | rfl | assumption | (simp; done))) rfl rfl rfl rfl rfl) rfl ?_)
    (refine nx (aNc (gd_on rfl rfl rfl rfl (by first | rfl | assumption | (simp; done))) rfl rfl rfl rfl rfl) rfl ?_)
    (refine nx (aF (gd_on rfl rfl rfl rfl (by first | rfl | assumption | (simp; done))) rfl rfl rfl rfl rfl rfl rfl rfl rfl) rfl ?_)
    (refine nx (aF (gd_on rfl rfl rfl rfl (by first | rfl | assumption | (simp; done))) rfl rfl rfl rfl rfl rfl rfl rfl rfl) rfl ?_)
    (refine nx (aLf (gd_on rfl rfl rfl rfl (by first | rfl | assumption | (simp; done))) rfl rfl rfl rfl rfl rfl rfl rfl rfl rfl rfl rfl rfl) rfl ?_)
    (refine nx (aF (gd_on rfl rfl rfl rfl (by first | rfl | assumption | (simp; done))) rfl rfl rfl rfl rfl rfl rfl rfl rfl) rfl ?_)
    (refine nx (aLb (gd_on rfl rfl rfl rfl (by first | rfl | assumption | (simp; done))) rfl rfl rfl rfl rfl rfl rfl rfl rfl rfl rfl rfl) rfl ?_)
    (refine nx (a_callO (gd_on rfl rfl rfl rfl (by first | rfl | assumption | (simp; done))) rfl rfl rfl rfl rfl (hco) (by repeat (first | exact trivial | refine ⟨rfl, ?_⟩)) (by first | rfl | kernel_rfl) (by first | rfl | kernel_rfl) (by first | rfl | kernel_rfl) (by first | rfl | kernel_rfl) (hnb_of (by first | rfl | kernel_rfl))) rfl ?_)
    (refine ⟨_, _, _, aPf (gN rfl) rfl rfl rfl rfl rfl ?hb rfl, rfl, ?_⟩; case hb => (first | rfl | assumption | (simp; done)))
    refine ⟨by kernel_rfl, ?_⟩
    show AWp _ _ _ _ _ _ _
    refine aC rfl (fun hc => ?_) (fun hc => by cases hc)
    refine aS (aR ?_)
    (refine nx (aA (gN rfl) rfl rfl rfl rfl rfl) rfl ?_)
    (refine nx (aA (gN rfl) rfl rfl rfl rfl rfl) rfl ?_)
    show AWp _ _ _ _ _ _ _
    exact aT ⟨.inr rfl, _, (wk_sub (s' := [(4, .val (.i 0)), (5, .val (.b false)), (450001, .obj), (35500100, .sl 400000 0 st.sg.nm.length 1), (35500101, .sl 300002 0 st.sg.ar.length 1), (35500102, .sl 300003 0 st.sg.pr.length 1), (35500103, .mref 300004), (35500104, .mref 300005), (400000, .mrow 9 1 (st.sg.nm.map sv)), (300002, .mrow 3 1 (st.sg.ar.map iv)), (300003, .mrow 4 1 (st.sg.pr.map bv)), (300004, .mp (st.sy.map syv)), (300005, .mp (st.vr.map vrv))]) ⟨rfl, rfl, rfl, rfl, rfl, rfl, rfl, rfl, rfl, rfl, rfl, rfl, rfl, trivial⟩).trans (wk_renF 400000 300001 rfl rfl hUb (by kernel_rfl) (by kernel_rfl) (by kernel_rfl)), rfl, rfl, rfl, rfl, rfl, rfl, rfl, rfl, rfl, rfl, rfl, rfl, trivial⟩
  rw [decide_eq_false hin] at hco
  rw [if_neg (by rintro (e | e); exact hbig e; exact hin e)]
  refine aS (aS (aD (by kernel_rfl) (by kernel_rfl) ?_))
  (refine nx (aM (gN rfl) rfl rfl rfl rfl rfl) rfl ?_)
  (refine nx (a_gtr (gN rfl) rfl rfl rfl rfl rfl rfl) rfl ?_)
  (refine nx (aM (gN rfl) rfl rfl rfl rfl rfl) rfl ?_)
  (refine nx (aM (gd_on rfl rfl rfl rfl (by first | rfl | assumption | (simp; done))) rfl rfl rfl rfl rfl) rfl ?_)
  (refine nx (aNc (gd_on rfl rfl rfl rfl (by first | rfl | assumption | (simp; done))) rfl rfl rfl rfl rfl) rfl ?_)
  (refine nx (aF (gd_on rfl rfl rfl rfl (by first | rfl | assumption | (simp; done))) rfl rfl rfl rfl rfl rfl rfl rfl rfl) rfl ?_)
  (refine nx (aF (gd_on rfl rfl rfl rfl (by first | rfl | assumption | (simp; done))) rfl rfl rfl rfl rfl rfl rfl rfl rfl) rfl ?_)
  (refine nx (aLf (gd_on rfl rfl rfl rfl (by first | rfl | assumption | (simp; done))) rfl rfl rfl rfl rfl rfl rfl rfl rfl rfl rfl rfl rfl) rfl ?_)
  (refine nx (aF (gd_on rfl rfl rfl rfl (by first | rfl | assumption | (simp; done))) rfl rfl rfl rfl rfl rfl rfl rfl rfl) rfl ?_)
  (refine nx (aLb (gd_on rfl rfl rfl rfl (by first | rfl | assumption | (simp; done))) rfl rfl rfl rfl rfl rfl rfl rfl rfl rfl rfl rfl) rfl ?_)
  (refine nx (a_callO (gd_on rfl rfl rfl rfl (by first | rfl | assumption | (simp; done))) rfl rfl rfl rfl rfl (hco) (by repeat (first | exact trivial | refine ⟨rfl, ?_⟩)) (by first | rfl | kernel_rfl) (by first | rfl | kernel_rfl) (by first | rfl | kernel_rfl) (by first | rfl | kernel_rfl) (hnb_of (by first | rfl | kernel_rfl))) rfl ?_)
  (refine ⟨_, _, _, aPf (gN rfl) rfl rfl rfl rfl rfl ?hb rfl, rfl, ?_⟩; case hb => (first | rfl | assumption | (simp; done)))
  refine ⟨by kernel_rfl, ?_⟩
  show AWp _ _ _ _ _ _ _
  refine aC rfl (fun hc => by cases hc) (fun hc => aK ?_)
  show AWp _ _ _ _ _ _ _
  refine AWp.wk ((wk_sub (s' := [(0, .bp 350001 0 []), (3, .bp 3 0 []), (100003, .bx (.row [sv knm, .i (kpt : Int), .b kpr])), (8, .val (.i (st.sg.nm.length : Int))), (450001, .obj), (35500100, .sl 400000 0 st.sg.nm.length 1), (35500101, .sl 300002 0 st.sg.ar.length 1), (35500102, .sl 300003 0 st.sg.pr.length 1), (35500103, .mref 300004), (35500104, .mref 300005), (400000, .mrow 9 1 (st.sg.nm.map sv)), (300002, .mrow 3 1 (st.sg.ar.map iv)), (300003, .mrow 4 1 (st.sg.pr.map bv)), (300004, .mp (st.sy.map syv)), (300005, .mp (st.vr.map vrv))]) ⟨rfl, rfl, rfl, rfl, rfl, rfl, rfl, rfl, rfl, rfl, rfl, rfl, rfl, rfl, rfl, trivial⟩).trans (wk_renF 400000 300001 rfl rfl hUb (by kernel_rfl) (by kernel_rfl) (by kernel_rfl))) ?_
  have z1 := svs_size st.sg.nm
  have z2 := ivs_size st.sg.ar
  have z3 := bvs_size st.sg.pr
  have m1 : (st.sg.nm.map sv).length = st.sg.nm.length := List.length_map ..
  have m2 : (st.sg.ar.map iv).length = st.sg.ar.length := List.length_map ..
  have m3 : (st.sg.pr.map bv).length = st.sg.pr.length := List.length_map ..
  have e2 := h.la
  have e3 := h.lp
  refine aS (aD (by kernel_rfl) (by kernel_rfl) ?_)
  (refine nx (aM (gN rfl) rfl rfl rfl rfl rfl) rfl ?_)
  (refine nx (aNc (gN rfl) rfl rfl rfl rfl rfl) rfl ?_)
  (refine nx (aF (gN rfl) rfl rfl rfl rfl rfl rfl rfl rfl rfl) rfl ?_)
  (refine nx (aLf (gN rfl) rfl rfl rfl rfl rfl rfl rfl rfl rfl rfl rfl rfl rfl) rfl ?_)
  (refine nx (aL (gN rfl) rfl rfl rfl rfl rfl rfl rfl rfl rfl rfl rfl rfl) rfl ?_)
  (refine nx (aM (gN rfl) rfl rfl rfl rfl rfl) rfl ?_)
  (refine nx (a_putK (gN rfl) rfl rfl rfl rfl rfl rfl rfl (kd_is) (K_kind) (hgk) (sy_keys h) (hno)) rfl ?_)
  refine ⟨by kernel_rfl, ?_⟩
  show AWp _ _ _ _ _ _ _
  refine aS (aD (by kernel_rfl) (by kernel_rfl) ?_)
  (refine nx (aM (gN rfl) rfl rfl rfl rfl rfl) rfl ?_)
  (refine nx (aM (gN rfl) rfl rfl rfl rfl rfl) rfl ?_)
  (refine nx (aNc (gN rfl) rfl rfl rfl rfl rfl) rfl ?_)
  (refine nx (aF (gN rfl) rfl rfl rfl rfl rfl rfl rfl rfl rfl) rfl ?_)
  (refine nx (aF (gN rfl) rfl rfl rfl rfl rfl rfl rfl rfl rfl) rfl ?_)
  (refine nx (aLf (gN rfl) rfl rfl rfl rfl rfl rfl rfl rfl rfl rfl rfl rfl rfl) rfl ?_)
  (refine nx (aF (gN rfl) rfl rfl rfl rfl rfl rfl rfl rfl rfl) rfl ?_)
  (refine nx (aLb (gN rfl) rfl rfl rfl rfl rfl rfl rfl rfl rfl rfl rfl rfl) rfl ?_)
  (refine nx (a_call (gN rfl) rfl rfl rfl rfl rfl (sClone_abs w knm (by omega))) rfl ?_)
  (refine nx (a_bslice (gN rfl) rfl rfl rfl rfl rfl rfl rfl rfl rfl rfl rfl rfl rfl) rfl ?_)
  (refine nx (a_appM 300054 (gN rfl) rfl rfl rfl rfl rfl rfl rfl rfl rfl rfl rfl rfl rfl (by first | rfl | omega | (simp only [List.length_set, List.length_map, List.length_append, List.length_cons, List.length_nil] <;> omega) | (simp <;> omega)) (by first | assumption | exact sZ rfl | exact Tm.size_all _ | exact Bd.size_all _ | exact ints_size _ | exact bys_size _ | exact Lt.size_all _) (by first | omega | (simp only [List.length_map, List.length_append, List.length_cons, List.length_nil] <;> omega) | (simp <;> omega))) (by kernel_rfl) ?_)
  (refine nx (aNc (gN rfl) rfl rfl rfl rfl rfl) rfl ?_)
  (refine nx (aF (gN rfl) rfl rfl rfl rfl rfl rfl rfl rfl rfl) rfl ?_)
  (refine nx (aF (gN rfl) rfl rfl rfl rfl rfl rfl rfl rfl rfl) rfl ?_)
  (refine nx (a_store_fld (gN rfl) rfl rfl rfl rfl rfl rfl rfl rfl rfl rfl rfl rfl) rfl ?_)
  refine ⟨by kernel_rfl, ?_⟩
  show AWp _ _ _ _ _ _ _
  refine AWp.wk ((wk_sub (s' := [(0, .bp 350001 0 []), (3, .bp 3 0 []), (100003, .bx (.row [sv knm, .i (kpt : Int), .b kpr])), (8, .val (.i (st.sg.nm.length : Int))), (450001, .obj), (35500100, .sl 300054 0 (st.sg.nm ++ [knm]).length 1), (35500101, .sl 300002 0 st.sg.ar.length 1), (35500102, .sl 300003 0 st.sg.pr.length 1), (35500103, .mref 300004), (35500104, .mref 300005), (300054, .mrow 9 1 ((st.sg.nm ++ [knm]).map sv)), (300002, .mrow 3 1 (st.sg.ar.map iv)), (300003, .mrow 4 1 (st.sg.pr.map bv)), (300004, .mp ((st.sy ++ [((knm, kpt, kpr), st.sg.nm.length)]).map syv)), (300005, .mp (st.vr.map vrv))]) ⟨rfl, rfl, rfl, rfl, rfl, by rw [List.length_append, ← m1]; rfl, rfl, rfl, rfl, rfl, by rw [List.map_append]; rfl, rfl, rfl, by rw [List.map_append (l₁ := st.sy)]; rfl, rfl, trivial⟩).trans (wk_ren 300054 300001 rfl rfl (by kernel_rfl) (by kernel_rfl))) ?_
  refine aS (aD (by kernel_rfl) (by kernel_rfl) ?_)
  (refine nx (aM (gN rfl) rfl rfl rfl rfl rfl) rfl ?_)
  (refine nx (aM (gN rfl) rfl rfl rfl rfl rfl) rfl ?_)
  (refine nx (aNc (gN rfl) rfl rfl rfl rfl rfl) rfl ?_)
  (refine nx (aF (gN rfl) rfl rfl rfl rfl rfl rfl rfl rfl rfl) rfl ?_)
  (refine nx (aF (gN rfl) rfl rfl rfl rfl rfl rfl rfl rfl rfl) rfl ?_)
  (refine nx (aLf (gN rfl) rfl rfl rfl rfl rfl rfl rfl rfl rfl rfl rfl rfl rfl) rfl ?_)
  (refine nx (aF (gN rfl) rfl rfl rfl rfl rfl rfl rfl rfl rfl) rfl ?_)
  (refine nx (aLb (gN rfl) rfl rfl rfl rfl rfl rfl rfl rfl rfl rfl rfl rfl) rfl ?_)
  (refine nx (a_bslice (gN rfl) rfl rfl rfl rfl rfl rfl rfl rfl rfl rfl rfl rfl rfl) rfl ?_)
  (refine nx (a_appM 300067 (gN rfl) rfl rfl rfl rfl rfl rfl rfl rfl rfl rfl rfl rfl rfl (by first | rfl | omega | (simp only [List.length_set, List.length_map, List.length_append, List.length_cons, List.length_nil] <;> omega) | (simp <;> omega)) (by first | assumption | exact sZ rfl | exact Tm.size_all _ | exact Bd.size_all _ | exact ints_size _ | exact bys_size _ | exact Lt.size_all _) (by first | omega | (simp only [List.length_map, List.length_append, List.length_cons, List.length_nil] <;> omega) | (simp <;> omega))) (by kernel_rfl) ?_)
  (refine nx (aNc (gN rfl) rfl rfl rfl rfl rfl) rfl ?_)
  (refine nx (aF (gN rfl) rfl rfl rfl rfl rfl rfl rfl rfl rfl) rfl ?_)
  (refine nx (aF (gN rfl) rfl rfl rfl rfl rfl rfl rfl rfl rfl) rfl ?_)
  (refine nx (a_store_fld (gN rfl) rfl rfl rfl rfl rfl rfl rfl rfl rfl rfl rfl rfl) rfl ?_)
  refine ⟨by kernel_rfl, ?_⟩
  show AWp _ _ _ _ _ _ _
  refine AWp.wk ((wk_sub (s' := [(0, .bp 350001 0 []), (3, .bp 3 0 []), (100003, .bx (.row [sv knm, .i (kpt : Int), .b kpr])), (8, .val (.i (st.sg.nm.length : Int))), (450001, .obj), (35500100, .sl 300001 0 (st.sg.nm ++ [knm]).length 1), (35500101, .sl 300067 0 (st.sg.ar ++ [kpt]).length 1), (35500102, .sl 300003 0 st.sg.pr.length 1), (35500103, .mref 300004), (35500104, .mref 300005), (300001, .mrow 9 1 ((st.sg.nm ++ [knm]).map sv)), (300067, .mrow 3 1 ((st.sg.ar ++ [kpt]).map iv)), (300003, .mrow 4 1 (st.sg.pr.map bv)), (300004, .mp ((st.sy ++ [((knm, kpt, kpr), st.sg.nm.length)]).map syv)), (300005, .mp (st.vr.map vrv))]) ⟨rfl, rfl, rfl, rfl, rfl, rfl, by rw [@List.length_append _ st.sg.ar [kpt], ← m2]; rfl, rfl, rfl, rfl, rfl, by rw [List.map_append (l₁ := st.sg.ar)]; rfl, rfl, rfl, rfl, trivial⟩).trans (wk_ren 300067 300002 rfl rfl (by kernel_rfl) (by kernel_rfl))) ?_
  refine aS (aD (by kernel_rfl) (by kernel_rfl) ?_)
  (refine nx (aM (gN rfl) rfl rfl rfl rfl rfl) rfl ?_)
  (refine nx (aM (gN rfl) rfl rfl rfl rfl rfl) rfl ?_)
  (refine nx (aNc (gN rfl) rfl rfl rfl rfl rfl) rfl ?_)
  (refine nx (aF (gN rfl) rfl rfl rfl rfl rfl rfl rfl rfl rfl) rfl ?_)
  (refine nx (aF (gN rfl) rfl rfl rfl rfl rfl rfl rfl rfl rfl) rfl ?_)
  (refine nx (aLf (gN rfl) rfl rfl rfl rfl rfl rfl rfl rfl rfl rfl rfl rfl rfl) rfl ?_)
  (refine nx (aF (gN rfl) rfl rfl rfl rfl rfl rfl rfl rfl rfl) rfl ?_)
  (refine nx (aLb (gN rfl) rfl rfl rfl rfl rfl rfl rfl rfl rfl rfl rfl rfl) rfl ?_)
  (refine nx (a_bslice (gN rfl) rfl rfl rfl rfl rfl rfl rfl rfl rfl rfl rfl rfl rfl) rfl ?_)
  (refine nx (a_appM 300080 (gN rfl) rfl rfl rfl rfl rfl rfl rfl rfl rfl rfl rfl rfl rfl (by first | rfl | omega | (simp only [List.length_set, List.length_map, List.length_append, List.length_cons, List.length_nil] <;> omega) | (simp <;> omega)) (by first | assumption | exact sZ rfl | exact Tm.size_all _ | exact Bd.size_all _ | exact ints_size _ | exact bys_size _ | exact Lt.size_all _) (by first | omega | (simp only [List.length_map, List.length_append, List.length_cons, List.length_nil] <;> omega) | (simp <;> omega))) (by kernel_rfl) ?_)
  (refine nx (aNc (gN rfl) rfl rfl rfl rfl rfl) rfl ?_)
  (refine nx (aF (gN rfl) rfl rfl rfl rfl rfl rfl rfl rfl rfl) rfl ?_)
  (refine nx (aF (gN rfl) rfl rfl rfl rfl rfl rfl rfl rfl rfl) rfl ?_)
  (refine nx (a_store_fld (gN rfl) rfl rfl rfl rfl rfl rfl rfl rfl rfl rfl rfl rfl) rfl ?_)
  refine ⟨by kernel_rfl, ?_⟩
  show AWp _ _ _ _ _ _ _
  refine aS (aR ?_)
  (refine nx (aM (gN rfl) rfl rfl rfl rfl rfl) rfl ?_)
  (refine nx (aA (gN rfl) rfl rfl rfl rfl rfl) rfl ?_)
  (refine nx (aA (gN rfl) rfl rfl rfl rfl rfl) rfl ?_)
  show AWp _ _ _ _ _ _ _
  exact aT ⟨.inr rfl, _, (wk_sub (s' := [(4, .val (.i (st.sg.nm.length : Int))), (5, .val (.b true)), (450001, .obj), (35500100, .sl 300001 0 (st.sg.nm ++ [knm]).length 1), (35500101, .sl 300002 0 (st.sg.ar ++ [kpt]).length 1), (35500102, .sl 300080 0 (st.sg.pr ++ [kpr]).length 1), (35500103, .mref 300004), (35500104, .mref 300005), (300001, .mrow 9 1 ((st.sg.nm ++ [knm]).map sv)), (300002, .mrow 3 1 ((st.sg.ar ++ [kpt]).map iv)), (300080, .mrow 4 1 ((st.sg.pr ++ [kpr]).map bv)), (300004, .mp ((st.sy ++ [((knm, kpt, kpr), st.sg.nm.length)]).map syv)), (300005, .mp (st.vr.map vrv))]) ⟨rfl, rfl, rfl, rfl, rfl, by rw [@List.length_append _ st.sg.pr [kpr], ← m3]; rfl, rfl, rfl, rfl, rfl, by rw [List.map_append (l₁ := st.sg.pr)]; rfl, rfl, rfl, trivial⟩).trans (wk_ren 300080 300003 rfl rfl (by kernel_rfl) (by kernel_rfl)), rfl, rfl, rfl, rfl, rfl, rfl, rfl, rfl, rfl, rfl, rfl, rfl, trivial⟩
end Go.Proofs.YtebhbnhijnpmcaaGreatDoor

-- @STR@
namespace Go.Proofs.YtebhbnhijnpmcaaGreatDoor
open Go.RowKit
set_option linter.unusedVariables false
set_option linter.unusedSimpArgs false
set_option maxRecDepth 100000

theorem rdX_len : ∀ (n d : Nat) (t : Tkn), (∀ r, rdX n d t none = some r → r.2.2.2.len ≤ t.len ∧ (r.2.2.1 = true → r.2.2.2.len < t.len)) ∧ ∀ acc r, rdX n d t (some acc) = some r → r.2.2.2.len ≤ t.len
  | 0, d, t => ⟨fun r h => by simp [rdX] at h, fun acc r h => by simp [rdX] at h⟩
  | n + 1, d, t => by
    constructor
    · intro r h
      obtain ⟨h1, h2⟩ := nameT_len t
      have h3 := takeT_len (nameT t).2.2 [40]
      rw [rdX] at h
      split at h
      · cases h; exact ⟨Nat.le_refl _, fun h => by cases h⟩
      · split at h
        · cases h; exact ⟨h1, fun h => h2 h⟩
        · rename_i hok
          have hok : (nameT t).2.1 = true := by
            cases hx : (nameT t).2.1 with
            | true => rfl
            | false => rw [hx] at hok; simp at hok
          have h2 := h2 hok
          split at h
          · split at h
            · cases h
            · rename_i q hq
              have h4 := (rdX_len n (d + 1) (takeT (nameT t).2.2 [40]).2).2 [] q hq
              have h5 := takeT_len q.2.2.2 [41]
              split at h
              · cases h; exact ⟨by show (takeT q.2.2.2 [41]).2.len ≤ _; omega, fun _ => by show (takeT q.2.2.2 [41]).2.len < _; omega⟩
              · cases h; exact ⟨by show q.2.2.2.len ≤ _; omega, fun h => by cases h⟩
          · cases h; exact ⟨by show (takeT (nameT t).2.2 [40]).2.len ≤ _; omega, fun _ => by show (takeT (nameT t).2.2 [40]).2.len < _; omega⟩
    · intro acc r h
      rw [rdX] at h
      split at h
      · cases h
      · rename_i q hq
        obtain ⟨h1, h2⟩ := (rdX_len n d t).1 q hq
        have h3 := takeT_len q.2.2.2 [44]
        split at h
        · split at h
          · have := (rdX_len n d (takeT q.2.2.2 [44]).2).2 _ r h
            omega
          · cases h; show (takeT q.2.2.2 [44]).2.len ≤ _; omega
        · cases h; exact h1
noncomputable abbrev tkS (t : Tkn) : AS := [(450001, .obj), (35500100, .val (sv t.nx)), (35500101, .val (sv t.rs))]
-- 
theorem move_abs (t : Tkn) (ht : t.rs.length ≤ 1000000) : AFunO Tryz.prog 32 (tkS t) [.bp 350001 0 []] (.tup []) (tkS (mvT t.rs)) := by
  obtain ⟨b, hb⟩ : ∃ b, b = bh t.rs := ⟨_, rfl⟩
  have h1 := (bh_eq t.rs).2
  have h2 := tkSz_le (bh t.rs)
  have hmv : mvT t.rs = ⟨b.take (tkSz b), b.drop (tkSz b)⟩ := by rw [hb]; rfl
  rw [← hb] at h1 h2
  rw [hmv]
  obtain ⟨k, hk⟩ : ∃ k, k = tkSz b := ⟨_, rfl⟩
  have hz := fun w => tkSz_abs w b (by omega)
  rw [← hk] at h2 hz ⊢
  have hbh := fun w => bh_abs w t.rs (by omega)
  rw [← hb] at hbh
  refine afunO_of Tryz.func32 Tryz.ntmps32 rfl rfl rfl rfl rfl rfl ?_
  intro w U hU
  refine aS (aR ?_)
  (refine nx (aM (gN rfl) rfl rfl rfl rfl rfl) rfl ?_)
  (refine nx (aNc (gN rfl) rfl rfl rfl rfl rfl) rfl ?_)
  (refine nx (aF (gN rfl) rfl rfl rfl rfl rfl rfl rfl rfl rfl) rfl ?_)
  (refine nx (aLf (gN rfl) rfl rfl rfl rfl rfl rfl rfl rfl rfl rfl rfl rfl rfl) rfl ?_)
  (refine nx (a_call (gN rfl) rfl rfl rfl rfl rfl (hbh w)) rfl ?_)
  (refine nx (aA (gN rfl) rfl rfl rfl rfl rfl) rfl ?_)
  show AWp _ _ _ _ _ _ _
  refine aS (aR ?_)
  (refine nx (aM (gN rfl) rfl rfl rfl rfl rfl) rfl ?_)
  (refine nx (a_call (gN rfl) rfl rfl rfl rfl rfl (hz w)) rfl ?_)
  (refine nx (aA (gN rfl) rfl rfl rfl rfl rfl) rfl ?_)
  show AWp _ _ _ _ _ _ _
  refine aD (by kernel_rfl) (by kernel_rfl) ?_
  (refine nx (aM (gN rfl) rfl rfl rfl rfl rfl) rfl ?_)
  (refine nx (aM (gN rfl) rfl rfl rfl rfl rfl) rfl ?_)
  (refine nx (aM (gN rfl) rfl rfl rfl rfl rfl) rfl ?_)
  (refine nx (aM (gN rfl) rfl rfl rfl rfl rfl) rfl ?_)
  (refine nx (a_supto (k) (gN rfl) rfl rfl rfl rfl rfl rfl rfl (by first | rfl | omega | (simp only [List.length_set, List.length_map, List.length_append, List.length_cons, List.length_nil] <;> omega) | (simp <;> omega)) (by first | rfl | omega | (simp only [List.length_set, List.length_map, List.length_append, List.length_cons, List.length_nil] <;> omega) | (simp <;> omega))) rfl ?_)
  (refine nx (aM (gN rfl) rfl rfl rfl rfl rfl) rfl ?_)
  (refine nx (aM (gN rfl) rfl rfl rfl rfl rfl) rfl ?_)
  (refine nx (a_sfrom (k) (gN rfl) rfl rfl rfl rfl rfl rfl rfl (by first | rfl | omega | (simp only [List.length_set, List.length_map, List.length_append, List.length_cons, List.length_nil] <;> omega) | (simp <;> omega)) (by first | rfl | omega | (simp only [List.length_set, List.length_map, List.length_append, List.length_cons, List.length_nil] <;> omega) | (simp <;> omega))) rfl ?_)
  (refine nx (aNc (gN rfl) rfl rfl rfl rfl rfl) rfl ?_)
  (refine nx (aF (gN rfl) rfl rfl rfl rfl rfl rfl rfl rfl rfl) rfl ?_)
  (refine nx (a_store_fld (gN rfl) rfl rfl rfl rfl rfl rfl rfl rfl rfl rfl rfl rfl) rfl ?_)
  (refine nx (aNc (gN rfl) rfl rfl rfl rfl rfl) rfl ?_)
  (refine nx (aF (gN rfl) rfl rfl rfl rfl rfl rfl rfl rfl rfl) rfl ?_)
  (refine nx (a_store_fld (gN rfl) rfl rfl rfl rfl rfl rfl rfl rfl rfl rfl rfl rfl) rfl ?_)
  refine ⟨by kernel_rfl, ?_⟩
  exact ⟨.inl rfl, _, Wk.refl _, rfl, rfl, rfl, rfl, trivial⟩
-- 
theorem take_abs (t : Tkn) (s : By) (ht : t.rs.length ≤ 1000000) : AFunO Tryz.prog 24 (tkS t) [.bp 350001 0 [], .val (sv s)] (.val (.b (takeT t s).1)) (tkS (takeT t s).2) := by
  unfold takeT
  by_cases h : t.nx = s
  · rw [if_pos h]
    refine afunO_of Tryz.func24 Tryz.ntmps24 rfl rfl rfl rfl rfl rfl ?_
    intro w U hU
    have g : (!decide (t.nx = s)) = false := by rw [decide_eq_true h]; rfl
    refine aS (aR ?_)
    (refine nx (aA (gN rfl) rfl rfl rfl rfl rfl) rfl ?_)
    show AWp _ _ _ _ _ _ _
    refine aS (aS (aR ?_))
    (refine nx (aM (gN rfl) rfl rfl rfl rfl rfl) rfl ?_)
    (refine nx (aNc (gN rfl) rfl rfl rfl rfl rfl) rfl ?_)
    (refine nx (aF (gN rfl) rfl rfl rfl rfl rfl rfl rfl rfl rfl) rfl ?_)
    (refine nx (aLf (gN rfl) rfl rfl rfl rfl rfl rfl rfl rfl rfl rfl rfl rfl rfl) rfl ?_)
    (refine nx (aM (gN rfl) rfl rfl rfl rfl rfl) rfl ?_)
    (refine nx (a_sneq (gN rfl) rfl rfl rfl rfl rfl rfl rfl) rfl ?_)
    show AWp _ _ _ _ _ _ _
    refine aC rfl (fun hc => by rw [g] at hc; cases hc) (fun hc => aK ?_)
    show AWp _ _ _ _ _ _ _
    refine aS (aR ?_)
    (refine nx (aM (gN rfl) rfl rfl rfl rfl rfl) rfl ?_)
    (refine nx (a_callO (gN rfl) rfl rfl rfl rfl rfl (move_abs t ht) (by repeat (first | exact trivial | refine ⟨rfl, ?_⟩)) (by first | rfl | kernel_rfl) (by first | rfl | kernel_rfl) (by first | rfl | kernel_rfl) (by first | rfl | kernel_rfl) (hnb_of (by first | rfl | kernel_rfl))) rfl ?_)
    show AWp _ _ _ _ _ _ _
    refine aS (aR ?_)
    (refine nx (aA (gN rfl) rfl rfl rfl rfl rfl) rfl ?_)
    show AWp _ _ _ _ _ _ _
    exact aT ⟨.inr rfl, _, Wk.refl _, rfl, rfl, rfl, rfl, trivial⟩
  · rw [if_neg h]
    refine afunO_of Tryz.func24 Tryz.ntmps24 rfl rfl rfl rfl rfl rfl ?_
    intro w U hU
    have g : (!decide (t.nx = s)) = true := by rw [decide_eq_false h]; rfl
    refine aS (aR ?_)
    (refine nx (aA (gN rfl) rfl rfl rfl rfl rfl) rfl ?_)
    show AWp _ _ _ _ _ _ _
    refine aS (aS (aR ?_))
    (refine nx (aM (gN rfl) rfl rfl rfl rfl rfl) rfl ?_)
    (refine nx (aNc (gN rfl) rfl rfl rfl rfl rfl) rfl ?_)
    (refine nx (aF (gN rfl) rfl rfl rfl rfl rfl rfl rfl rfl rfl) rfl ?_)
    (refine nx (aLf (gN rfl) rfl rfl rfl rfl rfl rfl rfl rfl rfl rfl rfl rfl rfl) rfl ?_)
    (refine nx (aM (gN rfl) rfl rfl rfl rfl rfl) rfl ?_)
    (refine nx (a_sneq (gN rfl) rfl rfl rfl rfl rfl rfl rfl) rfl ?_)
    show AWp _ _ _ _ _ _ _
    refine aC rfl (fun hc => ?_) (fun hc => by rw [g] at hc; cases hc)
    refine aS (aR ?_)
    (refine nx (aA (gN rfl) rfl rfl rfl rfl rfl) rfl ?_)
    show AWp _ _ _ _ _ _ _
    exact aT ⟨.inr rfl, _, Wk.refl _, rfl, rfl, rfl, rfl, trivial⟩
-- 
theorem takeN_abs (t : Tkn) (ht : t.rs.length ≤ 1000000) : AFunO Tryz.prog 55 (tkS t) [.bp 350001 0 []] (.tup [sv (nameT t).1, .b (nameT t).2.1]) (tkS (nameT t).2.2) := by
  have no : ∀ (w : World) (U : UX), isNmL t.nx = false → nameT t = ([], false, t) := fun _ _ h => by unfold nameT; rw [h]; rfl
  by_cases h0 : t.nx = []
  · have hn : nameT t = ([], false, t) := by unfold nameT isNmL; rw [h0]; rfl
    rw [hn]
    have g : decide (t.nx = []) = true := decide_eq_true h0
    refine afunO_of Tryz.func55 Tryz.ntmps55 rfl rfl rfl rfl rfl rfl ?_
    intro w U hU
    refine aS (aR ?_)
    (refine nx (aA (gN rfl) rfl rfl rfl rfl rfl) rfl ?_)
    (refine nx (aA (gN rfl) rfl rfl rfl rfl rfl) rfl ?_)
    show AWp _ _ _ _ _ _ _
    refine aS (aR ?_)
    (refine nx (aM (gN rfl) rfl rfl rfl rfl rfl) rfl ?_)
    (refine nx (aNc (gN rfl) rfl rfl rfl rfl rfl) rfl ?_)
    (refine nx (aF (gN rfl) rfl rfl rfl rfl rfl rfl rfl rfl rfl) rfl ?_)
    (refine nx (aLf (gN rfl) rfl rfl rfl rfl rfl rfl rfl rfl rfl rfl rfl rfl rfl) rfl ?_)
    (refine nx (aA (gN rfl) rfl rfl rfl rfl rfl) rfl ?_)
    show AWp _ _ _ _ _ _ _
    refine aS (aS (aR ?_))
    (refine nx (aM (gN rfl) rfl rfl rfl rfl rfl) rfl ?_)
    (refine nx (a_seql (gN rfl) rfl rfl rfl rfl rfl rfl rfl) rfl ?_)
    (refine nx (aM (gN rfl) rfl rfl rfl rfl rfl) rfl ?_)
    (refine ⟨_, _, _, a_offt (go_off rfl rfl rfl rfl (by first | rfl | assumption | (simp; done) | (simp [*]; done))) rfl rfl rfl, rfl, ?_⟩)
    (refine ⟨_, _, _, a_offt (go_off rfl rfl rfl rfl (by first | rfl | assumption | (simp; done) | (simp [*]; done))) rfl rfl rfl, rfl, ?_⟩)
    (refine ⟨_, _, _, a_offt (go_off rfl rfl rfl rfl (by first | rfl | assumption | (simp; done) | (simp [*]; done))) rfl rfl rfl, rfl, ?_⟩)
    (refine ⟨_, _, _, a_offt (go_off rfl rfl rfl rfl (by first | rfl | assumption | (simp; done) | (simp [*]; done))) rfl rfl rfl, rfl, ?_⟩)
    (refine ⟨_, _, _, a_offt (go_off_t rfl rfl rfl rfl) rfl rfl rfl, rfl, ?_⟩)
    (refine ⟨_, _, _, a_offt (go_off_t rfl rfl rfl rfl) rfl rfl rfl, rfl, ?_⟩)
    (refine ⟨_, _, _, a_offt (go_off_t rfl rfl rfl rfl) rfl rfl rfl, rfl, ?_⟩)
    (refine ⟨_, _, _, a_offt (go_off rfl rfl rfl rfl (by first | rfl | assumption | (simp; done) | (simp [*]; done))) rfl rfl rfl, rfl, ?_⟩)
    (refine ⟨_, _, _, aPt (gN rfl) rfl rfl rfl rfl rfl ?hb rfl, rfl, ?_⟩; case hb => (first | rfl | assumption | (simp; done)))
    show AWp _ _ _ _ _ _ _
    refine aC rfl (fun hc => ?_) (fun hc => by cases hc)
    refine aS (aR ?_)
    (refine nx (aA (gN rfl) rfl rfl rfl rfl rfl) rfl ?_)
    (refine nx (aA (gN rfl) rfl rfl rfl rfl rfl) rfl ?_)
    show AWp _ _ _ _ _ _ _
    exact aT ⟨.inr rfl, _, Wk.refl _, rfl, rfl, rfl, rfl, trivial⟩
  have g : decide (t.nx = []) = false := decide_eq_false h0
  cases h1 : isSmL t.nx with
  | true =>
    have hn : nameT t = (t.nx, true, mvT t.rs) := by unfold nameT isNmL; rw [g, h1]; rfl
    rw [hn]
    refine afunO_of Tryz.func55 Tryz.ntmps55 rfl rfl rfl rfl rfl rfl ?_
    intro w U hU
    have c1 := isSm_abs w t.nx h0
    rw [h1] at c1
    refine aS (aR ?_)
    (refine nx (aA (gN rfl) rfl rfl rfl rfl rfl) rfl ?_)
    (refine nx (aA (gN rfl) rfl rfl rfl rfl rfl) rfl ?_)
    show AWp _ _ _ _ _ _ _
    refine aS (aR ?_)
    (refine nx (aM (gN rfl) rfl rfl rfl rfl rfl) rfl ?_)
    (refine nx (aNc (gN rfl) rfl rfl rfl rfl rfl) rfl ?_)
    (refine nx (aF (gN rfl) rfl rfl rfl rfl rfl rfl rfl rfl rfl) rfl ?_)
    (refine nx (aLf (gN rfl) rfl rfl rfl rfl rfl rfl rfl rfl rfl rfl rfl rfl rfl) rfl ?_)
    (refine nx (aA (gN rfl) rfl rfl rfl rfl rfl) rfl ?_)
    show AWp _ _ _ _ _ _ _
    refine aS (aS (aR ?_))
    (refine nx (aM (gN rfl) rfl rfl rfl rfl rfl) rfl ?_)
    (refine nx (a_seql (gN rfl) rfl rfl rfl rfl rfl rfl rfl) rfl ?_)
    (refine nx (aM (gN rfl) rfl rfl rfl rfl rfl) rfl ?_)
    (refine nx (aM (gd_on rfl rfl rfl rfl (by first | rfl | assumption | (simp; done))) rfl rfl rfl rfl rfl) rfl ?_)
    (refine nx (a_call (gd_on rfl rfl rfl rfl (by first | rfl | assumption | (simp; done))) rfl rfl rfl rfl rfl (c1)) rfl ?_)
    (refine nx (a_not (gd_on rfl rfl rfl rfl (by first | rfl | assumption | (simp; done))) rfl rfl rfl rfl rfl) rfl ?_)
    (refine nx (aM (gd_on rfl rfl rfl rfl (by first | rfl | assumption | (simp; done))) rfl rfl rfl rfl rfl) rfl ?_)
    (refine ⟨_, _, _, a_off (go_off rfl rfl rfl rfl (by first | rfl | assumption | (simp; done) | (simp [*]; done))) rfl rfl rfl, rfl, ?_⟩)
    (refine ⟨_, _, _, a_off (go_off rfl rfl rfl rfl (by first | rfl | assumption | (simp; done) | (simp [*]; done))) rfl rfl rfl, rfl, ?_⟩)
    (refine ⟨_, _, _, a_off (go_off rfl rfl rfl rfl (by first | rfl | assumption | (simp; done) | (simp [*]; done))) rfl rfl rfl, rfl, ?_⟩)
    (refine ⟨_, _, _, aPf (gd_on rfl rfl rfl rfl (by first | rfl | assumption | (simp; done))) rfl rfl rfl rfl rfl ?hb rfl, rfl, ?_⟩; case hb => (first | rfl | assumption | (simp; done)))
    (refine ⟨_, _, _, aPf (gN rfl) rfl rfl rfl rfl rfl ?hb rfl, rfl, ?_⟩; case hb => (first | rfl | assumption | (simp; done)))
    show AWp _ _ _ _ _ _ _
    refine aC rfl (fun hc => by cases hc) (fun hc => aK ?_)
    show AWp _ _ _ _ _ _ _
    refine aS (aR ?_)
    (refine nx (aM (gN rfl) rfl rfl rfl rfl rfl) rfl ?_)
    (refine nx (a_callO (gN rfl) rfl rfl rfl rfl rfl (move_abs t ht) (by repeat (first | exact trivial | refine ⟨rfl, ?_⟩)) (by first | rfl | kernel_rfl) (by first | rfl | kernel_rfl) (by first | rfl | kernel_rfl) (by first | rfl | kernel_rfl) (hnb_of (by first | rfl | kernel_rfl))) rfl ?_)
    show AWp _ _ _ _ _ _ _
    refine aS (aR ?_)
    (refine nx (aM (gN rfl) rfl rfl rfl rfl rfl) rfl ?_)
    (refine nx (aA (gN rfl) rfl rfl rfl rfl rfl) rfl ?_)
    (refine nx (aA (gN rfl) rfl rfl rfl rfl rfl) rfl ?_)
    show AWp _ _ _ _ _ _ _
    exact aT ⟨.inr rfl, _, Wk.refl _, rfl, rfl, rfl, rfl, trivial⟩
  | false =>
  cases h2 : isGrL t.nx with
  | true =>
    have hn : nameT t = (t.nx, true, mvT t.rs) := by unfold nameT isNmL; rw [g, h1, h2]; rfl
    rw [hn]
    refine afunO_of Tryz.func55 Tryz.ntmps55 rfl rfl rfl rfl rfl rfl ?_
    intro w U hU
    have c1 := isSm_abs w t.nx h0
    have c2 := isGr_abs w t.nx h0
    rw [h1] at c1
    rw [h2] at c2
    refine aS (aR ?_)
    (refine nx (aA (gN rfl) rfl rfl rfl rfl rfl) rfl ?_)
    (refine nx (aA (gN rfl) rfl rfl rfl rfl rfl) rfl ?_)
    show AWp _ _ _ _ _ _ _
    refine aS (aR ?_)
    (refine nx (aM (gN rfl) rfl rfl rfl rfl rfl) rfl ?_)
    (refine nx (aNc (gN rfl) rfl rfl rfl rfl rfl) rfl ?_)
    (refine nx (aF (gN rfl) rfl rfl rfl rfl rfl rfl rfl rfl rfl) rfl ?_)
    (refine nx (aLf (gN rfl) rfl rfl rfl rfl rfl rfl rfl rfl rfl rfl rfl rfl rfl) rfl ?_)
    (refine nx (aA (gN rfl) rfl rfl rfl rfl rfl) rfl ?_)
    show AWp _ _ _ _ _ _ _
    refine aS (aS (aR ?_))
    (refine nx (aM (gN rfl) rfl rfl rfl rfl rfl) rfl ?_)
    (refine nx (a_seql (gN rfl) rfl rfl rfl rfl rfl rfl rfl) rfl ?_)
    (refine nx (aM (gN rfl) rfl rfl rfl rfl rfl) rfl ?_)
    (refine nx (aM (gd_on rfl rfl rfl rfl (by first | rfl | assumption | (simp; done))) rfl rfl rfl rfl rfl) rfl ?_)
    (refine nx (a_call (gd_on rfl rfl rfl rfl (by first | rfl | assumption | (simp; done))) rfl rfl rfl rfl rfl (c1)) rfl ?_)
    (refine nx (a_not (gd_on rfl rfl rfl rfl (by first | rfl | assumption | (simp; done))) rfl rfl rfl rfl rfl) rfl ?_)
    (refine nx (aM (gd_on rfl rfl rfl rfl (by first | rfl | assumption | (simp; done))) rfl rfl rfl rfl rfl) rfl ?_)
    (refine nx (aM (gd_on rfl rfl rfl rfl (by first | rfl | assumption | (simp; done))) rfl rfl rfl rfl rfl) rfl ?_)
    (refine nx (a_call (gd_on rfl rfl rfl rfl (by first | rfl | assumption | (simp; done))) rfl rfl rfl rfl rfl (c2)) rfl ?_)
    (refine nx (a_not (gd_on rfl rfl rfl rfl (by first | rfl | assumption | (simp; done))) rfl rfl rfl rfl rfl) rfl ?_)
    (refine ⟨_, _, _, aPt (gd_on rfl rfl rfl rfl (by first | rfl | assumption | (simp; done))) rfl rfl rfl rfl rfl ?hb rfl, rfl, ?_⟩; case hb => (first | rfl | assumption | (simp; done)))
    (refine ⟨_, _, _, aPf (gN rfl) rfl rfl rfl rfl rfl ?hb rfl, rfl, ?_⟩; case hb => (first | rfl | assumption | (simp; done)))
    show AWp _ _ _ _ _ _ _
    refine aC rfl (fun hc => by cases hc) (fun hc => aK ?_)
    show AWp _ _ _ _ _ _ _
    refine aS (aR ?_)
    (refine nx (aM (gN rfl) rfl rfl rfl rfl rfl) rfl ?_)
    (refine nx (a_callO (gN rfl) rfl rfl rfl rfl rfl (move_abs t ht) (by repeat (first | exact trivial | refine ⟨rfl, ?_⟩)) (by first | rfl | kernel_rfl) (by first | rfl | kernel_rfl) (by first | rfl | kernel_rfl) (by first | rfl | kernel_rfl) (hnb_of (by first | rfl | kernel_rfl))) rfl ?_)
    show AWp _ _ _ _ _ _ _
    refine aS (aR ?_)
    (refine nx (aM (gN rfl) rfl rfl rfl rfl rfl) rfl ?_)
    (refine nx (aA (gN rfl) rfl rfl rfl rfl rfl) rfl ?_)
    (refine nx (aA (gN rfl) rfl rfl rfl rfl rfl) rfl ?_)
    show AWp _ _ _ _ _ _ _
    exact aT ⟨.inr rfl, _, Wk.refl _, rfl, rfl, rfl, rfl, trivial⟩
  | false =>
    have hn : nameT t = ([], false, t) := by unfold nameT isNmL; rw [g, h1, h2]; rfl
    rw [hn]
    refine afunO_of Tryz.func55 Tryz.ntmps55 rfl rfl rfl rfl rfl rfl ?_
    intro w U hU
    have c1 := isSm_abs w t.nx h0
    have c2 := isGr_abs w t.nx h0
    rw [h1] at c1
    rw [h2] at c2
    refine aS (aR ?_)
    (refine nx (aA (gN rfl) rfl rfl rfl rfl rfl) rfl ?_)
    (refine nx (aA (gN rfl) rfl rfl rfl rfl rfl) rfl ?_)
    show AWp _ _ _ _ _ _ _
    refine aS (aR ?_)
    (refine nx (aM (gN rfl) rfl rfl rfl rfl rfl) rfl ?_)
    (refine nx (aNc (gN rfl) rfl rfl rfl rfl rfl) rfl ?_)
    (refine nx (aF (gN rfl) rfl rfl rfl rfl rfl rfl rfl rfl rfl) rfl ?_)
    (refine nx (aLf (gN rfl) rfl rfl rfl rfl rfl rfl rfl rfl rfl rfl rfl rfl rfl) rfl ?_)
    (refine nx (aA (gN rfl) rfl rfl rfl rfl rfl) rfl ?_)
    show AWp _ _ _ _ _ _ _
    refine aS (aS (aR ?_))
    (refine nx (aM (gN rfl) rfl rfl rfl rfl rfl) rfl ?_)
    (refine nx (a_seql (gN rfl) rfl rfl rfl rfl rfl rfl rfl) rfl ?_)
    (refine nx (aM (gN rfl) rfl rfl rfl rfl rfl) rfl ?_)
    (refine nx (aM (gd_on rfl rfl rfl rfl (by first | rfl | assumption | (simp; done))) rfl rfl rfl rfl rfl) rfl ?_)
    (refine nx (a_call (gd_on rfl rfl rfl rfl (by first | rfl | assumption | (simp; done))) rfl rfl rfl rfl rfl (c1)) rfl ?_)
    (refine nx (a_not (gd_on rfl rfl rfl rfl (by first | rfl | assumption | (simp; done))) rfl rfl rfl rfl rfl) rfl ?_)
    (refine nx (aM (gd_on rfl rfl rfl rfl (by first | rfl | assumption | (simp; done))) rfl rfl rfl rfl rfl) rfl ?_)
    (refine nx (aM (gd_on rfl rfl rfl rfl (by first | rfl | assumption | (simp; done))) rfl rfl rfl rfl rfl) rfl ?_)
    (refine nx (a_call (gd_on rfl rfl rfl rfl (by first | rfl | assumption | (simp; done))) rfl rfl rfl rfl rfl (c2)) rfl ?_)
    (refine nx (a_not (gd_on rfl rfl rfl rfl (by first | rfl | assumption | (simp; done))) rfl rfl rfl rfl rfl) rfl ?_)
    (refine ⟨_, _, _, aPt (gd_on rfl rfl rfl rfl (by first | rfl | assumption | (simp; done))) rfl rfl rfl rfl rfl ?hb rfl, rfl, ?_⟩; case hb => (first | rfl | assumption | (simp; done)))
    (refine ⟨_, _, _, aPf (gN rfl) rfl rfl rfl rfl rfl ?hb rfl, rfl, ?_⟩; case hb => (first | rfl | assumption | (simp; done)))
    show AWp _ _ _ _ _ _ _
    refine aC rfl (fun hc => ?_) (fun hc => by cases hc)
    refine aS (aR ?_)
    (refine nx (aA (gN rfl) rfl rfl rfl rfl rfl) rfl ?_)
    (refine nx (aA (gN rfl) rfl rfl rfl rfl rfl) rfl ?_)
    show AWp _ _ _ _ _ _ _
    exact aT ⟨.inr rfl, _, Wk.refl _, rfl, rfl, rfl, rfl, trivial⟩
end Go.Proofs.YtebhbnhijnpmcaaGreatDoor

