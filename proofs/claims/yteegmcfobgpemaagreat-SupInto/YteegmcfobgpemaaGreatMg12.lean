/-
  OrRef OrRef2 OrCom ClNmX ClTtM ClRefN EqRef AbStr PrQuo EqRef2 EqRef3 TmPlE TmPlF TmPlG AbYield
-/
import Derived.Test.YteegmcfobgpemaaGreatMg11
import Derived.Test.YteegmcfobgpemaaGreatMg10
import Derived.Test.YteegmcfobgpemaaGreatMg3
import Derived.Laws.Strings
import Derived.Laws.Strings3
import Derived.Laws.Concat
import Derived.Lib.Strings
import Derived.Laws.BytesArg
import Derived.Test.YteegmcfobgpemaaGreatMg9
namespace Go.Proofs.YteegmcfobgpemaaGreat
open Go.RowKit
set_option linter.unusedVariables false
set_option linter.unusedSimpArgs false
set_option maxRecDepth 100000
-- 
theorem rTms_abs (W : World) (l : Lt) : AFun Tryz.prog W 140 [l.cw] (.val (.lst ((tmsL l).map Tm.cv))) := by
  refine afun_of (rs := [.lst ((tmsL l).map Tm.cv)]) Tryz.func140 Tryz.ntmps140 rfl rfl rfl rfl ?_
  intro w U hW
  refine aS (aR ?_)
  (refine nx (a_box (gN rfl) rfl rfl rfl rfl rfl) rfl ?_)
  (refine nx (aA (gN rfl) rfl rfl rfl rfl rfl) rfl ?_)
  show AWp _ _ _ _ _ _ _
  refine aS (aS (aR ?_))
  (refine nx (aF (gN rfl) rfl rfl rfl rfl rfl rfl rfl rfl rfl) rfl ?_)
  (refine nx (aLb (gN rfl) rfl rfl rfl rfl rfl rfl rfl rfl rfl rfl rfl rfl) rfl ?_)
  show AWp _ _ _ _ _ _ _
  refine aC rfl (fun hc => ?_) (fun hc => ?_)
  · have hc : l.neg = true := hc
    have e : CV.lst ((tmsL l).map Tm.cv) = .lst [l.a.cw, l.a.cw, l.b.cw, l.b.cw] := by unfold tmsL; rw [if_pos hc]; simp only [List.map_cons, List.map_nil, Tm.cv_eq]
    rw [e]
    refine aS (aR ?_)
    (refine nx (aF (gN rfl) rfl rfl rfl rfl rfl rfl rfl rfl rfl) rfl ?_)
    (refine nx (aLb (gN rfl) rfl rfl rfl rfl rfl rfl rfl rfl rfl rfl rfl rfl) rfl ?_)
    (refine nx (aF (gN rfl) rfl rfl rfl rfl rfl rfl rfl rfl rfl) rfl ?_)
    (refine nx (aLb (gN rfl) rfl rfl rfl rfl rfl rfl rfl rfl rfl rfl rfl rfl) rfl ?_)
    (refine nx (aF (gN rfl) rfl rfl rfl rfl rfl rfl rfl rfl rfl) rfl ?_)
    (refine nx (aLb (gN rfl) rfl rfl rfl rfl rfl rfl rfl rfl rfl rfl rfl rfl) rfl ?_)
    (refine nx (aF (gN rfl) rfl rfl rfl rfl rfl rfl rfl rfl rfl) rfl ?_)
    (refine nx (aLb (gN rfl) rfl rfl rfl rfl rfl rfl rfl rfl rfl rfl rfl rfl) rfl ?_)
    (refine nx (a_bslice (gN rfl) rfl rfl rfl rfl rfl rfl rfl rfl rfl rfl rfl rfl rfl) rfl ?_)
    (refine nx (aA (gN rfl) rfl rfl rfl rfl rfl) rfl ?_)
    show AWp _ _ _ _ _ _ _
    exact aT (And.intro (.inr rfl) rfl)
  · have hc : l.neg = false := hc
    have e : CV.lst ((tmsL l).map Tm.cv) = .lst [l.a.cw, l.b.cw] := by unfold tmsL; rw [if_neg (by rw [hc]; decide)]; simp only [List.map_cons, List.map_nil, Tm.cv_eq]
    rw [e]
    refine aK ?_
    show AWp _ _ _ _ _ _ _
    refine aS (aR ?_)
    (refine nx (aF (gN rfl) rfl rfl rfl rfl rfl rfl rfl rfl rfl) rfl ?_)
    (refine nx (aLb (gN rfl) rfl rfl rfl rfl rfl rfl rfl rfl rfl rfl rfl rfl) rfl ?_)
    (refine nx (aF (gN rfl) rfl rfl rfl rfl rfl rfl rfl rfl rfl) rfl ?_)
    (refine nx (aLb (gN rfl) rfl rfl rfl rfl rfl rfl rfl rfl rfl rfl rfl rfl) rfl ?_)
    (refine nx (a_bslice (gN rfl) rfl rfl rfl rfl rfl rfl rfl rfl rfl rfl rfl rfl rfl) rfl ?_)
    (refine nx (aA (gN rfl) rfl rfl rfl rfl rfl) rfl ?_)
    show AWp _ _ _ _ _ _ _
    exact aT (And.intro (.inr rfl) rfl)

def htK (h : Option Nat) (k : Nat) : Bool := match h with | some i => decide (i < k) | none => false
def usK (h : Option Nat) (u : List Bool) (k : Nat) : List Bool := match h with | some i => if i < k then u.set i true else u | none => u
theorem htK_zero (h : Option Nat) : htK h 0 = false := by cases h <;> rfl
theorem usK_zero (h : Option Nat) (u : List Bool) : usK h u 0 = u := by cases h <;> rfl
theorem ht_yes {h : Option Nat} {k : Nat} (e : htK h k = true) (u : List Bool) : htK h (k + 1) = true ∧ usK h u (k + 1) = usK h u k := by
  cases h with
  | none => cases e
  | some i =>
    have hi : i < k := by simpa [htK] using e
    exact ⟨by simp [htK]; omega, by simp only [usK]; rw [if_pos (by omega), if_pos hi]⟩
theorem ht_no {h : Option Nat} {k : Nat} (e : htK h k = false) (u : List Bool) : usK h u k = u := by
  cases h with
  | none => rfl
  | some i =>
    have hi : ¬ i < k := by simpa [htK] using e
    simp only [usK]; rw [if_neg hi]
theorem ht_next {h : Option Nat} {k : Nat} (e : htK h k = false) (hn : h ≠ some k) (u : List Bool) : htK h (k + 1) = false ∧ usK h u (k + 1) = u := by
  cases h with
  | none => exact ⟨rfl, rfl⟩
  | some i =>
    have hi : ¬ i < k := by simpa [htK] using e
    have hik : i ≠ k := fun h => hn (by rw [h])
    exact ⟨by simp [htK]; omega, by simp only [usK]; rw [if_neg (by omega)]⟩
theorem ht_here {k : Nat} (u : List Bool) : htK (some k) (k + 1) = true ∧ usK (some k) u (k + 1) = u.set k true := ⟨by simp [htK], by simp only [usK]; rw [if_pos (by omega)]⟩
theorem hit_at {b : List Tm} {u : List Bool} {t : Tm} {k : Nat} {y : Tm} {f : Bool} (hy : b[k]? = some y) (hu : u[k]? = some f) (e : htK (hitI b u t) k = false) : hitI b u t = some k ↔ (!f && sameT t y) = true := by
  have hz : (b.zip u)[k]? = some (y, f) := by rw [List.getElem?_zip_eq_some]; exact ⟨hy, hu⟩
  obtain ⟨hk, hke⟩ := List.getElem?_eq_some_iff.1 hz
  constructor
  · intro h
    unfold hitI at h
    obtain ⟨h1, h2, _⟩ := List.findIdx?_eq_some_iff_getElem.1 h
    rw [hke] at h2
    exact h2
  · intro h
    cases hh : hitI b u t with
    | none =>
      unfold hitI at hh
      have := List.findIdx?_eq_none_iff.1 hh _ (List.mem_of_getElem? hz)
      rw [h] at this; cases this
    | some i =>
      rw [hh] at e
      have hi : ¬ i < k := by simpa [htK] using e
      unfold hitI at hh
      obtain ⟨h1, h2, h3⟩ := List.findIdx?_eq_some_iff_getElem.1 hh
      by_cases hik : k < i
      · have h4 := h3 k hik
        rw [hke] at h4
        exact absurd h h4
      · have : i = k := by omega
        rw [this]
theorem hit_lt {b : List Tm} {u : List Bool} {t : Tm} {i : Nat} (h : hitI b u t = some i) : i < b.length := by
  unfold hitI at h
  obtain ⟨h1, _⟩ := List.findIdx?_eq_some_iff_getElem.1 h
  rw [List.length_zip] at h1
  omega
theorem bls_at {u : List Bool} {k : Nat} {f : Bool} (h : u[k]? = some f) : (u.map CV.b)[k]? = some (.b f) := by rw [List.getElem?_map, h]; rfl
theorem usK_len (h : Option Nat) (u : List Bool) (k : Nat) : (usK h u k).length = u.length := by
  cases h with
  | none => rfl
  | some i => simp only [usK]; split <;> simp
-- 
theorem rLess14_abs (W : World) (a b : List Tm) (ha : ∀ t ∈ a, t.ok) (hb : ∀ t ∈ b, t.ok) (hal : a.length ≤ 100000) (hbl : b.length ≤ 100000) : AFun Tryz.prog W 165 [.lst (a.map Tm.cv), .lst (b.map Tm.cv)] (.val (.lst ((lessD a b).map Tm.cv))) := by
  have hsa := Tm.size_all a
  have hsb := Tm.size_all b
  refine afun_of (rs := [.lst ((lessD a b).map Tm.cv)]) Tryz.func165 Tryz.ntmps165 rfl rfl rfl rfl ?_
  intro w U hW
  refine aS (aR ?_)
  (refine nx (aA (gN rfl) rfl rfl rfl rfl rfl) rfl ?_)
  show AWp _ _ _ _ _ _ _
  refine aS (aR ?_)
  (refine nx (aM (gN rfl) rfl rfl rfl rfl rfl) rfl ?_)
  (refine nx (a_len (gN rfl) rfl rfl rfl rfl rfl rfl rfl) rfl ?_)
  (refine nx (a_mkM 300005 (k := b.length) (gN rfl) rfl rfl rfl rfl rfl rfl rfl rfl rfl rfl rfl rfl rfl rfl (by first | rfl | omega | (simp only [List.length_set, List.length_map, List.length_append, List.length_cons, List.length_nil] <;> omega) | (simp <;> omega)) (by first | rfl | omega | (simp only [List.length_set, List.length_map, List.length_append, List.length_cons, List.length_nil] <;> omega) | (simp <;> omega)) rfl (by first | rfl | omega | (simp only [List.length_set, List.length_map, List.length_append, List.length_cons, List.length_nil] <;> omega) | (simp <;> omega))) rfl ?_)
  (refine nx (aA (gN rfl) rfl rfl rfl rfl rfl) rfl ?_)
  show AWp _ _ _ _ _ _ _
  refine aS (aR ?_)
  (refine nx (aA (gN rfl) rfl rfl rfl rfl rfl) rfl ?_)
  show AWp _ _ _ _ _ _ _
  refine aS (aS (aR ?_))
  (refine nx (aA (gN rfl) rfl rfl rfl rfl rfl) rfl ?_)
  show AWp _ _ _ _ _ _ _
  let st : Nat → List Tm → List Bool → AS := fun i out u => [(0, .val (.lst (a.map Tm.cv))), (1, .val (.lst (b.map Tm.cv))), (5, .sl 300005 0 b.length 1), (300005, .mrow 4 1 (u.map CV.b)), (6, .own (.lst (out.map Tm.cv)) 200056), (200056, .tok 50 2), (7, .val (.i i))]
  refine aB (awp_loop (fun j s => ∃ i out u, j = a.length - i ∧ i ≤ a.length ∧ u.length = b.length ∧ out ++ lsD (a.drop i) b u = lessD a b ∧ out.length ≤ i ∧ s = st i out u) (s' := st 0 [] (List.replicate b.length false)) ((wk_nil 6 200056 50 2 rfl rfl rfl rfl rfl rfl rfl).trans (wk_sub ⟨rfl, rfl, rfl, ?_, rfl, rfl, rfl, trivial⟩)) ⟨0, [], _, rfl, Nat.zero_le _, by simp, rfl, Nat.le_refl _, rfl⟩ ?_)
  · show some (AV.mrow _ _ _) = some (AV.mrow _ _ _)
    rw [List.map_replicate]
    rfl
  rintro j s ⟨i, out, u, rfl, hi, hul, hout, hol, rfl⟩
  refine aS (aS (aR ?_))
  (refine nx (aM (gN rfl) rfl rfl rfl rfl rfl) rfl ?_)
  (refine nx (aM (gN rfl) rfl rfl rfl rfl rfl) rfl ?_)
  (refine nx (a_len (gN rfl) rfl rfl rfl rfl rfl rfl rfl) rfl ?_)
  (refine nx (a_lss (gN rfl) rfl rfl rfl rfl rfl rfl) rfl ?_)
  show AWp _ _ _ _ _ _ _
  refine aC rfl (fun hlt => ?_) (fun hlt => ?_)
  · have hil : i < a.length := by simpa using hlt
    obtain ⟨t, ht⟩ : ∃ t, a[i]? = some t := ⟨a[i], List.getElem?_eq_getElem hil⟩
    have ht' := Tm.map_at ht
    have hto := ha t (List.mem_of_getElem? ht)
    have hdr : a.drop i = t :: a.drop (i + 1) := drop_atT ht
    obtain ⟨h, hh⟩ : ∃ h, h = hitI b u t := ⟨_, rfl⟩
    have hls1 : h = none → lsD (a.drop i) b u = t :: lsD (a.drop (i + 1)) b u := fun e => by rw [hdr, lsD, ← hh, e]
    have hls2 : ∀ k, h = some k → lsD (a.drop i) b u = lsD (a.drop (i + 1)) b (u.set k true) := fun k e => by rw [hdr, lsD, ← hh, e]
    refine aK ?_
    show AWp _ _ _ _ _ _ _
    refine aS (aB (aS (aR ?_)))
    (refine nx (aA (gN rfl) rfl rfl rfl rfl rfl) rfl ?_)
    show AWp _ _ _ _ _ _ _
    refine aS (aS (aR ?_))
    (refine nx (aA (gN rfl) rfl rfl rfl rfl rfl) rfl ?_)
    show AWp _ _ _ _ _ _ _
    let st2 : Nat → AS := fun k => [(0, .val (.lst (a.map Tm.cv))), (1, .val (.lst (b.map Tm.cv))), (5, .sl 300005 0 b.length 1), (300005, .mrow 4 1 ((usK h u k).map CV.b)), (6, .own (.lst (out.map Tm.cv)) 200056), (200056, .tok 50 2), (7, .val (.i i)), (8, .val (.b (htK h k))), (9, .val (.i k))]
    refine aB (awp_count b.length st2 (wk_sub ⟨rfl, rfl, rfl, by rw [usK_zero]; rfl, rfl, rfl, rfl, by rw [htK_zero]; rfl, rfl, trivial⟩) ?_)
    intro k hk
    have hulk := usK_len h u k
    refine aS (aS (aR ?_))
    (refine nx (aM (gN rfl) rfl rfl rfl rfl rfl) rfl ?_)
    (refine nx (aM (gN rfl) rfl rfl rfl rfl rfl) rfl ?_)
    (refine nx (a_len (gN rfl) rfl rfl rfl rfl rfl rfl rfl) rfl ?_)
    (refine nx (a_lss (gN rfl) rfl rfl rfl rfl rfl rfl) rfl ?_)
    show AWp _ _ _ _ _ _ _
    refine aC rfl (fun hlt2 => ?_) (fun hlt2 => ?_)
    · have hkl : k < b.length := by simpa using hlt2
      obtain ⟨y, hy⟩ : ∃ y, b[k]? = some y := ⟨b[k], List.getElem?_eq_getElem hkl⟩
      have hy' := Tm.map_at hy
      have hyo := hb y (List.mem_of_getElem? hy)
      refine aK ?_
      show AWp _ _ _ _ _ _ _
      refine aS (aB ?_)
      cases hht : htK h k with
      | true =>
        obtain ⟨n1, n2⟩ := ht_yes hht u
        refine AWp.wk (wk_sub (s' := [(0, .val (.lst (a.map Tm.cv))), (1, .val (.lst (b.map Tm.cv))), (5, .sl 300005 0 b.length 1), (300005, .mrow 4 1 ((usK h u k).map CV.b)), (6, .own (.lst (out.map Tm.cv)) 200056), (200056, .tok 50 2), (7, .val (.i i)), (8, .val (.b true)), (9, .val (.i k))]) ⟨rfl, rfl, rfl, rfl, rfl, rfl, rfl, by rw [← hht]; rfl, rfl, trivial⟩) ?_
        refine aS (aD (by kernel_rfl) (by kernel_rfl) ?_)
        (refine nx (aM (gN rfl) rfl rfl rfl rfl rfl) rfl ?_)
        (refine nx (a_not (gN rfl) rfl rfl rfl rfl rfl) rfl ?_)
        (refine nx (aM (gN rfl) rfl rfl rfl rfl rfl) rfl ?_)
        (refine ⟨_, _, _, a_off (go_off rfl rfl rfl rfl (by first | rfl | assumption | (simp; done) | (simp [*]; done))) rfl rfl rfl, rfl, ?_⟩)
        (refine ⟨_, _, _, a_off (go_off rfl rfl rfl rfl (by first | rfl | assumption | (simp; done) | (simp [*]; done))) rfl rfl rfl, rfl, ?_⟩)
        (refine ⟨_, _, _, a_off (go_off rfl rfl rfl rfl (by first | rfl | assumption | (simp; done) | (simp [*]; done))) rfl rfl rfl, rfl, ?_⟩)
        (refine ⟨_, _, _, a_off (go_off rfl rfl rfl rfl (by first | rfl | assumption | (simp; done) | (simp [*]; done))) rfl rfl rfl, rfl, ?_⟩)
        (refine ⟨_, _, _, a_off (go_off rfl rfl rfl rfl (by first | rfl | assumption | (simp; done) | (simp [*]; done))) rfl rfl rfl, rfl, ?_⟩)
        (refine ⟨_, _, _, aPf (gN rfl) rfl rfl rfl rfl rfl ?hb rfl, rfl, ?_⟩; case hb => (first | rfl | assumption | (simp; done)))
        (refine nx (aM (gN rfl) rfl rfl rfl rfl rfl) rfl ?_)
        (refine ⟨_, _, _, a_off (go_off rfl rfl rfl rfl (by first | rfl | assumption | (simp; done) | (simp [*]; done))) rfl rfl rfl, rfl, ?_⟩)
        (refine ⟨_, _, _, a_off (go_off rfl rfl rfl rfl (by first | rfl | assumption | (simp; done) | (simp [*]; done))) rfl rfl rfl, rfl, ?_⟩)
        (refine ⟨_, _, _, a_off (go_off rfl rfl rfl rfl (by first | rfl | assumption | (simp; done) | (simp [*]; done))) rfl rfl rfl, rfl, ?_⟩)
        (refine ⟨_, _, _, a_off (go_off rfl rfl rfl rfl (by first | rfl | assumption | (simp; done) | (simp [*]; done))) rfl rfl rfl, rfl, ?_⟩)
        (refine ⟨_, _, _, a_off (go_off rfl rfl rfl rfl (by first | rfl | assumption | (simp; done) | (simp [*]; done))) rfl rfl rfl, rfl, ?_⟩)
        (refine ⟨_, _, _, a_off (go_off rfl rfl rfl rfl (by first | rfl | assumption | (simp; done) | (simp [*]; done))) rfl rfl rfl, rfl, ?_⟩)
        (refine ⟨_, _, _, a_off (go_off rfl rfl rfl rfl (by first | rfl | assumption | (simp; done) | (simp [*]; done))) rfl rfl rfl, rfl, ?_⟩)
        (refine ⟨_, _, _, a_off (go_off rfl rfl rfl rfl (by first | rfl | assumption | (simp; done) | (simp [*]; done))) rfl rfl rfl, rfl, ?_⟩)
        (refine ⟨_, _, _, a_off (go_off rfl rfl rfl rfl (by first | rfl | assumption | (simp; done) | (simp [*]; done))) rfl rfl rfl, rfl, ?_⟩)
        (refine ⟨_, _, _, aPf (gN rfl) rfl rfl rfl rfl rfl ?hb rfl, rfl, ?_⟩; case hb => (first | rfl | assumption | (simp; done)))
        refine ⟨by kernel_rfl, ?_⟩
        show AWp _ _ _ _ _ _ _
        refine aC rfl (fun h => by cases h) (fun _ => ?_)
        refine aK ?_
        show AWp _ _ _ _ _ _ _
        refine aR ?_
        (refine nx (aM (gN rfl) rfl rfl rfl rfl rfl) rfl ?_)
        (refine nx (a_add (gN rfl) rfl rfl rfl rfl rfl rfl (by first | omega | (simp only [List.length_map, List.length_append, List.length_cons, List.length_nil] <;> omega) | (simp <;> omega))) rfl ?_)
        (refine nx (aA (gN rfl) rfl rfl rfl rfl rfl) rfl ?_)
        refine ⟨hkl, wk_sub ⟨rfl, rfl, rfl, ?_, rfl, rfl, rfl, ?_, rfl, trivial⟩⟩
        · rw [n2]; rfl
        · rw [n1]; rfl
      | false =>
        have hus := ht_no hht u
        obtain ⟨f, hf⟩ : ∃ f, u[k]? = some f := ⟨u[k]'(by omega), List.getElem?_eq_getElem (by omega)⟩
        have hf' := bls_at hf
        have hat := hit_at hy hf (by rw [← hh]; exact hht)
        rw [← hh] at hat
        have hum : (u.map CV.b).length = b.length := by rw [List.length_map]; exact hul
        refine AWp.wk (wk_sub (s' := [(0, .val (.lst (a.map Tm.cv))), (1, .val (.lst (b.map Tm.cv))), (5, .sl 300005 0 b.length 1), (300005, .mrow 4 1 (u.map CV.b)), (6, .own (.lst (out.map Tm.cv)) 200056), (200056, .tok 50 2), (7, .val (.i i)), (8, .val (.b false)), (9, .val (.i k))]) ⟨rfl, rfl, rfl, by show some (AV.mrow _ _ _) = some (AV.mrow _ _ _); rw [hus], rfl, rfl, rfl, by rw [← hht]; rfl, rfl, trivial⟩) ?_
        cases f with
        | true =>
          obtain ⟨n1, n2⟩ := ht_next hht (fun e => by have := hat.1 e; cases this) u
          refine aS (aD (by kernel_rfl) (by kernel_rfl) ?_)
          (refine nx (aM (gN rfl) rfl rfl rfl rfl rfl) rfl ?_)
          (refine nx (a_not (gN rfl) rfl rfl rfl rfl rfl) rfl ?_)
          (refine nx (aM (gN rfl) rfl rfl rfl rfl rfl) rfl ?_)
          (refine nx (aM (gd_on rfl rfl rfl rfl (by first | rfl | assumption | (simp; done))) rfl rfl rfl rfl rfl) rfl ?_)
          (refine nx (aM (gd_on rfl rfl rfl rfl (by first | rfl | assumption | (simp; done))) rfl rfl rfl rfl rfl) rfl ?_)
          (refine nx (aIm (k := k) (gd_on rfl rfl rfl rfl (by first | rfl | assumption | (simp; done))) rfl rfl rfl rfl rfl rfl rfl rfl rfl (by first | rfl | omega | (simp only [List.length_set, List.length_map, List.length_append, List.length_cons, List.length_nil] <;> omega) | (simp <;> omega))) rfl ?_)
          (refine nx (a_loadM (gd_on rfl rfl rfl rfl (by first | rfl | assumption | (simp; done))) rfl rfl rfl rfl rfl rfl rfl rfl (hf') rfl (by first | rfl | omega | (simp only [List.length_set, List.length_map, List.length_append, List.length_cons, List.length_nil] <;> omega) | (simp <;> omega)) rfl rfl) rfl ?_)
          (refine nx (a_not (gd_on rfl rfl rfl rfl (by first | rfl | assumption | (simp; done))) rfl rfl rfl rfl rfl) rfl ?_)
          (refine ⟨_, _, _, aPt (gN rfl) rfl rfl rfl rfl rfl ?hb rfl, rfl, ?_⟩; case hb => (first | rfl | assumption | (simp; done)))
          (refine nx (aM (gN rfl) rfl rfl rfl rfl rfl) rfl ?_)
          (refine ⟨_, _, _, a_off (go_off rfl rfl rfl rfl (by first | rfl | assumption | (simp; done) | (simp [*]; done))) rfl rfl rfl, rfl, ?_⟩)
          (refine ⟨_, _, _, a_off (go_off rfl rfl rfl rfl (by first | rfl | assumption | (simp; done) | (simp [*]; done))) rfl rfl rfl, rfl, ?_⟩)
          (refine ⟨_, _, _, a_off (go_off rfl rfl rfl rfl (by first | rfl | assumption | (simp; done) | (simp [*]; done))) rfl rfl rfl, rfl, ?_⟩)
          (refine ⟨_, _, _, a_off (go_off rfl rfl rfl rfl (by first | rfl | assumption | (simp; done) | (simp [*]; done))) rfl rfl rfl, rfl, ?_⟩)
          (refine ⟨_, _, _, a_off (go_off rfl rfl rfl rfl (by first | rfl | assumption | (simp; done) | (simp [*]; done))) rfl rfl rfl, rfl, ?_⟩)
          (refine ⟨_, _, _, a_off (go_off rfl rfl rfl rfl (by first | rfl | assumption | (simp; done) | (simp [*]; done))) rfl rfl rfl, rfl, ?_⟩)
          (refine ⟨_, _, _, a_off (go_off rfl rfl rfl rfl (by first | rfl | assumption | (simp; done) | (simp [*]; done))) rfl rfl rfl, rfl, ?_⟩)
          (refine ⟨_, _, _, a_off (go_off rfl rfl rfl rfl (by first | rfl | assumption | (simp; done) | (simp [*]; done))) rfl rfl rfl, rfl, ?_⟩)
          (refine ⟨_, _, _, a_off (go_off rfl rfl rfl rfl (by first | rfl | assumption | (simp; done) | (simp [*]; done))) rfl rfl rfl, rfl, ?_⟩)
          (refine ⟨_, _, _, aPf (gN rfl) rfl rfl rfl rfl rfl ?hb rfl, rfl, ?_⟩; case hb => (first | rfl | assumption | (simp; done)))
          refine ⟨by kernel_rfl, ?_⟩
          show AWp _ _ _ _ _ _ _
          refine aC rfl (fun h => by cases h) (fun _ => ?_)
          refine aK ?_
          show AWp _ _ _ _ _ _ _
          refine aR ?_
          (refine nx (aM (gN rfl) rfl rfl rfl rfl rfl) rfl ?_)
          (refine nx (a_add (gN rfl) rfl rfl rfl rfl rfl rfl (by first | omega | (simp only [List.length_map, List.length_append, List.length_cons, List.length_nil] <;> omega) | (simp <;> omega))) rfl ?_)
          (refine nx (aA (gN rfl) rfl rfl rfl rfl rfl) rfl ?_)
          refine ⟨hkl, wk_sub ⟨rfl, rfl, rfl, ?_, rfl, rfl, rfl, ?_, rfl, trivial⟩⟩
          · rw [n2]; rfl
          · rw [n1]; rfl
        | false =>
          refine aS (aD (by kernel_rfl) (by kernel_rfl) ?_)
          (refine nx (aM (gN rfl) rfl rfl rfl rfl rfl) rfl ?_)
          (refine nx (a_not (gN rfl) rfl rfl rfl rfl rfl) rfl ?_)
          (refine nx (aM (gN rfl) rfl rfl rfl rfl rfl) rfl ?_)
          (refine nx (aM (gd_on rfl rfl rfl rfl (by first | rfl | assumption | (simp; done))) rfl rfl rfl rfl rfl) rfl ?_)
          (refine nx (aM (gd_on rfl rfl rfl rfl (by first | rfl | assumption | (simp; done))) rfl rfl rfl rfl rfl) rfl ?_)
          (refine nx (aIm (k := k) (gd_on rfl rfl rfl rfl (by first | rfl | assumption | (simp; done))) rfl rfl rfl rfl rfl rfl rfl rfl rfl (by first | rfl | omega | (simp only [List.length_set, List.length_map, List.length_append, List.length_cons, List.length_nil] <;> omega) | (simp <;> omega))) rfl ?_)
          (refine nx (a_loadM (gd_on rfl rfl rfl rfl (by first | rfl | assumption | (simp; done))) rfl rfl rfl rfl rfl rfl rfl rfl (hf') rfl (by first | rfl | omega | (simp only [List.length_set, List.length_map, List.length_append, List.length_cons, List.length_nil] <;> omega) | (simp <;> omega)) rfl rfl) rfl ?_)
          (refine nx (a_not (gd_on rfl rfl rfl rfl (by first | rfl | assumption | (simp; done))) rfl rfl rfl rfl rfl) rfl ?_)
          (refine ⟨_, _, _, aPt (gN rfl) rfl rfl rfl rfl rfl ?hb rfl, rfl, ?_⟩; case hb => (first | rfl | assumption | (simp; done)))
          (refine nx (aM (gN rfl) rfl rfl rfl rfl rfl) rfl ?_)
          (refine nx (aM (gd_on rfl rfl rfl rfl (by first | rfl | assumption | (simp; done))) rfl rfl rfl rfl rfl) rfl ?_)
          (refine nx (aM (gd_on rfl rfl rfl rfl (by first | rfl | assumption | (simp; done))) rfl rfl rfl rfl rfl) rfl ?_)
          (refine nx (a_index (j := i) (gd_on rfl rfl rfl rfl (by first | rfl | assumption | (simp; done))) rfl rfl rfl rfl rfl rfl rfl rfl rfl (ht') rfl (hsa)) rfl ?_)
          (refine nx (a_load_ad (gd_on rfl rfl rfl rfl (by first | rfl | assumption | (simp; done))) rfl rfl rfl rfl rfl rfl rfl rfl rfl) rfl ?_)
          (refine nx (aM (gd_on rfl rfl rfl rfl (by first | rfl | assumption | (simp; done))) rfl rfl rfl rfl rfl) rfl ?_)
          (refine nx (aM (gd_on rfl rfl rfl rfl (by first | rfl | assumption | (simp; done))) rfl rfl rfl rfl rfl) rfl ?_)
          (refine nx (a_index (j := k) (gd_on rfl rfl rfl rfl (by first | rfl | assumption | (simp; done))) rfl rfl rfl rfl rfl rfl rfl rfl rfl (hy') rfl (hsb)) rfl ?_)
          (refine nx (a_load_ad (gd_on rfl rfl rfl rfl (by first | rfl | assumption | (simp; done))) rfl rfl rfl rfl rfl rfl rfl rfl rfl) rfl ?_)
          (refine nx (a_call (gd_on rfl rfl rfl rfl (by first | rfl | assumption | (simp; done))) rfl rfl rfl rfl rfl (refSame_abs w t y hto hyo)) rfl ?_)
          (refine ⟨_, _, _, aPt (gN rfl) rfl rfl rfl rfl rfl ?hb rfl, rfl, ?_⟩; case hb => (first | rfl | assumption | (simp; done)))
          refine ⟨by kernel_rfl, ?_⟩
          show AWp _ _ _ _ _ _ _
          refine aC rfl (fun hsm => ?_) (fun hsm => ?_)
          · have hsm : sameT t y = true := hsm
            have he : h = some k := hat.2 (by rw [hsm]; rfl)
            obtain ⟨n1, n2⟩ := ht_here (k := k) u
            refine aS (aR ?_)
            (refine nx (aM (gN rfl) rfl rfl rfl rfl rfl) rfl ?_)
            (refine nx (aM (gN rfl) rfl rfl rfl rfl rfl) rfl ?_)
            (refine nx (aIm (k := k) (gN rfl) rfl rfl rfl rfl rfl rfl rfl rfl rfl (by first | rfl | omega | (simp only [List.length_set, List.length_map, List.length_append, List.length_cons, List.length_nil] <;> omega) | (simp <;> omega))) rfl ?_)
            (refine nx (a_storeM (gN rfl) rfl rfl rfl rfl rfl rfl (hf') rfl rfl (by first | rfl | omega | (simp only [List.length_set, List.length_map, List.length_append, List.length_cons, List.length_nil] <;> omega) | (simp <;> omega)) rfl) rfl ?_)
            show AWp _ _ _ _ _ _ _
            refine aR ?_
            (refine nx (aA (gN rfl) rfl rfl rfl rfl rfl) rfl ?_)
            show AWp _ _ _ _ _ _ _
            refine aR ?_
            (refine nx (aM (gN rfl) rfl rfl rfl rfl rfl) rfl ?_)
            (refine nx (a_add (gN rfl) rfl rfl rfl rfl rfl rfl (by first | omega | (simp only [List.length_map, List.length_append, List.length_cons, List.length_nil] <;> omega) | (simp <;> omega))) rfl ?_)
            (refine nx (aA (gN rfl) rfl rfl rfl rfl rfl) rfl ?_)
            refine ⟨hkl, wk_sub ⟨rfl, rfl, rfl, ?_, rfl, rfl, rfl, ?_, rfl, trivial⟩⟩
            · show some (AV.mrow _ _ _) = some (AV.mrow _ _ _)
              rw [he, n2, List.map_set]
              rfl
            · rw [he, n1]; rfl
          · have hsm : sameT t y = false := hsm
            obtain ⟨n1, n2⟩ := ht_next hht (fun e => by have := hat.1 e; rw [hsm] at this; cases this) u
            refine aK ?_
            show AWp _ _ _ _ _ _ _
            refine aR ?_
            (refine nx (aM (gN rfl) rfl rfl rfl rfl rfl) rfl ?_)
            (refine nx (a_add (gN rfl) rfl rfl rfl rfl rfl rfl (by first | omega | (simp only [List.length_map, List.length_append, List.length_cons, List.length_nil] <;> omega) | (simp <;> omega))) rfl ?_)
            (refine nx (aA (gN rfl) rfl rfl rfl rfl rfl) rfl ?_)
            refine ⟨hkl, wk_sub ⟨rfl, rfl, rfl, ?_, rfl, rfl, rfl, ?_, rfl, trivial⟩⟩
            · rw [n2]; rfl
            · rw [n1]; rfl
    · have hkl : k = b.length := by
        have : ¬ k < b.length := by simpa using hlt2
        omega
      subst hkl
      refine aE ?_
      show AWp _ _ _ _ _ _ _
      refine aS (aR ?_)
      (refine nx (aM (gN rfl) rfl rfl rfl rfl rfl) rfl ?_)
      (refine nx (a_not (gN rfl) rfl rfl rfl rfl rfl) rfl ?_)
      show AWp _ _ _ _ _ _ _
      have hol2 : (out.map Tm.cv).length ≤ i := by rw [List.length_map]; exact hol
      have hso := Tm.size_all out
      refine aC rfl (fun hn => ?_) (fun hn => ?_)
      · have hn : (!htK h b.length) = true := hn
        have hnone : h = none := by
          cases hc : h with
          | none => rfl
          | some q =>
            rw [hc] at hn
            have := hit_lt (hh.symm.trans hc)
            simp [htK] at hn
            omega
        have hls := hls1 hnone
        have hus : usK h u b.length = u := by rw [hnone]; rfl
        refine aR ?_
        (refine nx (aM (gN rfl) rfl rfl rfl rfl rfl) rfl ?_)
        (refine nx (aM (gN rfl) rfl rfl rfl rfl rfl) rfl ?_)
        (refine nx (aM (gN rfl) rfl rfl rfl rfl rfl) rfl ?_)
        (refine nx (a_index (j := i) (gN rfl) rfl rfl rfl rfl rfl rfl rfl rfl rfl (ht') rfl (hsa)) rfl ?_)
        (refine nx (a_load_ad (gN rfl) rfl rfl rfl rfl rfl rfl rfl rfl rfl) rfl ?_)
        (refine nx (a_bslice (gN rfl) rfl rfl rfl rfl rfl rfl rfl rfl rfl rfl rfl rfl rfl) rfl ?_)
        (refine nx (a_app (gN rfl) rfl rfl rfl rfl rfl rfl rfl rfl rfl rfl rfl rfl rfl rfl rfl (by first | assumption | exact sZ rfl | exact Tm.size_all _ | exact Bd.size_all _ | exact ints_size _ | exact bys_size _ | exact Lt.size_all _) (by first | assumption | exact sZ rfl | exact Tm.size_all _ | exact Bd.size_all _ | exact ints_size _ | exact bys_size _ | exact Lt.size_all _) (by first | omega | (simp only [List.length_map, List.length_append, List.length_cons, List.length_nil] <;> omega) | (simp <;> omega))) rfl ?_)
        (refine nx (aA (gN rfl) rfl rfl rfl rfl rfl) rfl ?_)
        show AWp _ _ _ _ _ _ _
        refine AWp.wk ((wk_sub (s' := [(0, .val (.lst (a.map Tm.cv))), (1, .val (.lst (b.map Tm.cv))), (5, .sl 300005 0 b.length 1), (300005, .mrow 4 1 (u.map CV.b)), (6, .own (.lst ((out ++ [t]).map Tm.cv)) 300056), (300056, .tok 50 2), (7, .val (.i i))]) ⟨rfl, rfl, rfl, by show some (AV.mrow _ _ _) = some (AV.mrow _ _ _); rw [hus], ?_, rfl, rfl, trivial⟩).trans (wk_ren 300056 200056 rfl rfl rfl rfl)) ?_
        · show some (AV.own (.lst _) _) = some (AV.own (.lst _) _)
          rw [List.map_append, List.map_cons, List.map_nil, Tm.cv_eq t]
        refine aR ?_
        (refine nx (aM (gN rfl) rfl rfl rfl rfl rfl) rfl ?_)
        (refine nx (a_add (gN rfl) rfl rfl rfl rfl rfl rfl (by first | omega | (simp only [List.length_map, List.length_append, List.length_cons, List.length_nil] <;> omega) | (simp <;> omega))) rfl ?_)
        (refine nx (aA (gN rfl) rfl rfl rfl rfl rfl) rfl ?_)
        refine ⟨a.length - (i + 1), st (i + 1) (out ++ [t]) u, by omega, ⟨i + 1, out ++ [t], u, rfl, by omega, hul, ?_, by simp; omega, rfl⟩, wk_sub ⟨rfl, rfl, rfl, rfl, rfl, rfl, rfl, trivial⟩⟩
        rw [← hout, hls, List.append_assoc]; rfl
      · have hn : (!htK h b.length) = false := hn
        obtain ⟨q, hq⟩ : ∃ q, h = some q := by
          cases hc : h with
          | none => rw [hc] at hn; cases hn
          | some q => exact ⟨q, rfl⟩
        have hql := hit_lt (hh.symm.trans hq)
        have hls := hls2 q hq
        have hus : usK h u b.length = u.set q true := by rw [hq]; simp only [usK]; rw [if_pos hql]
        refine aK ?_
        show AWp _ _ _ _ _ _ _
        refine AWp.wk (wk_sub (s' := [(0, .val (.lst (a.map Tm.cv))), (1, .val (.lst (b.map Tm.cv))), (5, .sl 300005 0 b.length 1), (300005, .mrow 4 1 ((u.set q true).map CV.b)), (6, .own (.lst (out.map Tm.cv)) 200056), (200056, .tok 50 2), (7, .val (.i i))]) ⟨rfl, rfl, rfl, by show some (AV.mrow _ _ _) = some (AV.mrow _ _ _); rw [hus], rfl, rfl, rfl, trivial⟩) ?_
        refine aR ?_
        (refine nx (aM (gN rfl) rfl rfl rfl rfl rfl) rfl ?_)
        (refine nx (a_add (gN rfl) rfl rfl rfl rfl rfl rfl (by first | omega | (simp only [List.length_map, List.length_append, List.length_cons, List.length_nil] <;> omega) | (simp <;> omega))) rfl ?_)
        (refine nx (aA (gN rfl) rfl rfl rfl rfl rfl) rfl ?_)
        refine ⟨a.length - (i + 1), st (i + 1) out (u.set q true), by omega, ⟨i + 1, out, u.set q true, rfl, by omega, by simp [hul], ?_, by omega, rfl⟩, wk_sub ⟨rfl, rfl, rfl, rfl, rfl, rfl, rfl, trivial⟩⟩
        rw [← hout, hls]
  · have hil : i = a.length := by
      have : ¬ i < a.length := by simpa using hlt
      omega
    subst hil
    have he : lessD a b = out := by rw [← hout, List.drop_length, lsD, List.append_nil]
    rw [he]
    refine aE ?_
    show AWp _ _ _ _ _ _ _
    refine aS (aR ?_)
    (refine nx (aM (gN rfl) rfl rfl rfl rfl rfl) rfl ?_)
    (refine nx (aA (gN rfl) rfl rfl rfl rfl rfl) rfl ?_)
    show AWp _ _ _ _ _ _ _
    exact aT (And.intro (.inr rfl) rfl)
theorem lsD_mem : ∀ {a b : List Tm} {u : List Bool} {t : Tm}, t ∈ lsD a b u → t ∈ a
  | [], b, u, t, h => by unfold lsD at h; exact h
  | x :: a, b, u, t, h => by
    unfold lsD at h
    split at h
    · rcases List.mem_cons.1 h with rfl | h
      · exact List.mem_cons_self
      · exact List.mem_cons_of_mem _ (lsD_mem h)
    · exact List.mem_cons_of_mem _ (lsD_mem h)
theorem lsD_len : ∀ (a b : List Tm) (u : List Bool), (lsD a b u).length ≤ a.length
  | [], b, u => by unfold lsD; exact Nat.le_refl _
  | x :: a, b, u => by
    unfold lsD
    split
    · have := lsD_len a b u; simp; omega
    · rename_i k _; have := lsD_len a b (u.set k true); simp; omega
noncomputable def undB14 (X : List Tm) (y : Tm) : Bool := X.any fun x => decide (kb x y = 1)
theorem out_und (X Y : List Tm) : outB X Y = (decide (0 < X.length) && Y.all (undB14 X)) := by
  rw [Bool.eq_iff_iff, outB_iff, Bool.and_eq_true, decide_eq_true_iff, List.all_eq_true, List.length_pos_iff]
  refine and_congr_right fun _ => forall_congr' fun y => forall_congr' fun _ => ?_
  unfold undB14
  rw [List.any_eq_true]
  exact exists_congr fun x => and_congr_right fun _ => (decide_eq_true_iff).symm
theorem und_take {X : List Tm} {k : Nat} {x : Tm} (h : X[k]? = some x) (y : Tm) : undB14 (X.take (k + 1)) y = (undB14 (X.take k) y || decide (kb x y = 1)) := by
  unfold undB14
  rw [List.take_add_one, h, List.any_append]
  simp
-- 
theorem rMulti14_abs (W : World) (a b : List Tm) (ha : ∀ t ∈ a, t.fit) (hb : ∀ t ∈ b, t.fit) (hal : a.length ≤ 100000) (hbl : b.length ≤ 100000) : AFun Tryz.prog W 139 [.lst (a.map Tm.cv), .lst (b.map Tm.cv)] (.val (.b (mulB a b))) := by
  rw [← mul_doc, out_und]
  obtain ⟨X, hX⟩ : ∃ X, X = lessD a b := ⟨_, rfl⟩
  obtain ⟨Y, hY⟩ : ∃ Y, Y = lessD b a := ⟨_, rfl⟩
  have hXf : ∀ t ∈ X, t.fit := fun t h => ha t (by rw [hX] at h; exact lsD_mem h)
  have hYf : ∀ t ∈ Y, t.fit := fun t h => hb t (by rw [hY] at h; exact lsD_mem h)
  have hXl : X.length ≤ 100000 := by rw [hX]; exact Nat.le_trans (lsD_len _ _ _) hal
  have hYl : Y.length ≤ 100000 := by rw [hY]; exact Nat.le_trans (lsD_len _ _ _) hbl
  have hsX := Tm.size_all X
  have hsY := Tm.size_all Y
  have hl1 : ∀ w, AFun Tryz.prog w 165 [.lst (a.map Tm.cv), .lst (b.map Tm.cv)] (.val (.lst (X.map Tm.cv))) := fun w => by rw [hX]; exact rLess14_abs w a b (fun t h => (ha t h).2.1) (fun t h => (hb t h).2.1) hal hbl
  have hl2 : ∀ w, AFun Tryz.prog w 165 [.lst (b.map Tm.cv), .lst (a.map Tm.cv)] (.val (.lst (Y.map Tm.cv))) := fun w => by rw [hY]; exact rLess14_abs w b a (fun t h => (hb t h).2.1) (fun t h => (ha t h).2.1) hbl hal
  rw [← hX, ← hY]
  refine afun_of (rs := [.b (decide (0 < X.length) && Y.all (undB14 X))]) Tryz.func139 Tryz.ntmps139 rfl rfl rfl rfl ?_
  intro w U hW
  refine aS (aR ?_)
  (refine nx (aA (gN rfl) rfl rfl rfl rfl rfl) rfl ?_)
  show AWp _ _ _ _ _ _ _
  refine aS (aR ?_)
  (refine nx (aM (gN rfl) rfl rfl rfl rfl rfl) rfl ?_)
  (refine nx (aM (gN rfl) rfl rfl rfl rfl rfl) rfl ?_)
  (refine nx (a_call (gN rfl) rfl rfl rfl rfl rfl (hl1 w)) rfl ?_)
  (refine nx (aM (gN rfl) rfl rfl rfl rfl rfl) rfl ?_)
  (refine nx (aM (gN rfl) rfl rfl rfl rfl rfl) rfl ?_)
  (refine nx (a_call (gN rfl) rfl rfl rfl rfl rfl (hl2 w)) rfl ?_)
  (refine nx (aA (gN rfl) rfl rfl rfl rfl rfl) rfl ?_)
  (refine nx (aA (gN rfl) rfl rfl rfl rfl rfl) rfl ?_)
  show AWp _ _ _ _ _ _ _
  refine aS (aS (aR ?_))
  (refine nx (aA (gN rfl) rfl rfl rfl rfl rfl) rfl ?_)
  show AWp _ _ _ _ _ _ _
  let st : Nat → AS := fun i => [(5, .val (.lst (X.map Tm.cv))), (6, .val (.lst (Y.map Tm.cv))), (7, .val (.i i))]
  refine aB (awp_countI Y.length (fun i => ∀ y ∈ Y.take i, undB14 X y = true) st (wk_sub ⟨rfl, rfl, rfl, trivial⟩) (by simp) ?_)
  intro i hi hI
  refine aS (aS (aR ?_))
  (refine nx (aM (gN rfl) rfl rfl rfl rfl rfl) rfl ?_)
  (refine nx (aM (gN rfl) rfl rfl rfl rfl rfl) rfl ?_)
  (refine nx (a_len (gN rfl) rfl rfl rfl rfl rfl rfl rfl) rfl ?_)
  (refine nx (a_lss (gN rfl) rfl rfl rfl rfl rfl rfl) rfl ?_)
  show AWp _ _ _ _ _ _ _
  refine aC rfl (fun hlt => ?_) (fun hlt => ?_)
  · have hil : i < Y.length := by simpa using hlt
    obtain ⟨y, hy⟩ : ∃ y, Y[i]? = some y := ⟨Y[i], List.getElem?_eq_getElem hil⟩
    have hy' := Tm.map_at hy
    have hyf := hYf y (List.mem_of_getElem? hy)
    refine aK ?_
    show AWp _ _ _ _ _ _ _
    refine aS (aB (aS (aR ?_)))
    (refine nx (aA (gN rfl) rfl rfl rfl rfl rfl) rfl ?_)
    show AWp _ _ _ _ _ _ _
    refine aS (aS (aR ?_))
    (refine nx (aA (gN rfl) rfl rfl rfl rfl rfl) rfl ?_)
    show AWp _ _ _ _ _ _ _
    let st2 : Nat → AS := fun k => [(5, .val (.lst (X.map Tm.cv))), (6, .val (.lst (Y.map Tm.cv))), (7, .val (.i i)), (8, .val (.b (undB14 (X.take k) y))), (9, .val (.i k))]
    refine aB (awp_count X.length st2 (wk_sub ⟨rfl, rfl, rfl, rfl, rfl, trivial⟩) ?_)
    intro k hk
    refine aS (aS (aR ?_))
    (refine nx (aM (gN rfl) rfl rfl rfl rfl rfl) rfl ?_)
    (refine nx (aM (gN rfl) rfl rfl rfl rfl rfl) rfl ?_)
    (refine nx (a_len (gN rfl) rfl rfl rfl rfl rfl rfl rfl) rfl ?_)
    (refine nx (a_lss (gN rfl) rfl rfl rfl rfl rfl rfl) rfl ?_)
    show AWp _ _ _ _ _ _ _
    refine aC rfl (fun hlt2 => ?_) (fun hlt2 => ?_)
    · have hkl : k < X.length := by simpa using hlt2
      obtain ⟨x, hx⟩ : ∃ x, X[k]? = some x := ⟨X[k], List.getElem?_eq_getElem hkl⟩
      have hx' := Tm.map_at hx
      have hxf := hXf x (List.mem_of_getElem? hx)
      have hut := und_take hx y
      refine aK ?_
      show AWp _ _ _ _ _ _ _
      refine aS (aB ?_)
      cases hu : undB14 (X.take k) y with
      | true =>
        rw [hu, Bool.true_or] at hut
        refine AWp.wk (wk_sub (s' := [(5, .val (.lst (X.map Tm.cv))), (6, .val (.lst (Y.map Tm.cv))), (7, .val (.i i)), (8, .val (.b true)), (9, .val (.i k))]) ⟨rfl, rfl, rfl, by rw [← hu]; rfl, rfl, trivial⟩) ?_
        refine aD (by kernel_rfl) (by kernel_rfl) ?_
        (refine nx (aM (gN rfl) rfl rfl rfl rfl rfl) rfl ?_)
        (refine nx (aM (gN rfl) rfl rfl rfl rfl rfl) rfl ?_)
        (refine ⟨_, _, _, a_off (go_off rfl rfl rfl rfl (by first | rfl | assumption | (simp; done) | (simp [*]; done))) rfl rfl rfl, rfl, ?_⟩)
        (refine ⟨_, _, _, a_off (go_off rfl rfl rfl rfl (by first | rfl | assumption | (simp; done) | (simp [*]; done))) rfl rfl rfl, rfl, ?_⟩)
        (refine ⟨_, _, _, a_off (go_off rfl rfl rfl rfl (by first | rfl | assumption | (simp; done) | (simp [*]; done))) rfl rfl rfl, rfl, ?_⟩)
        (refine ⟨_, _, _, a_off (go_off rfl rfl rfl rfl (by first | rfl | assumption | (simp; done) | (simp [*]; done))) rfl rfl rfl, rfl, ?_⟩)
        (refine ⟨_, _, _, a_off (go_off rfl rfl rfl rfl (by first | rfl | assumption | (simp; done) | (simp [*]; done))) rfl rfl rfl, rfl, ?_⟩)
        (refine ⟨_, _, _, a_off (go_off rfl rfl rfl rfl (by first | rfl | assumption | (simp; done) | (simp [*]; done))) rfl rfl rfl, rfl, ?_⟩)
        (refine ⟨_, _, _, a_off (go_off rfl rfl rfl rfl (by first | rfl | assumption | (simp; done) | (simp [*]; done))) rfl rfl rfl, rfl, ?_⟩)
        (refine ⟨_, _, _, a_off (go_off rfl rfl rfl rfl (by first | rfl | assumption | (simp; done) | (simp [*]; done))) rfl rfl rfl, rfl, ?_⟩)
        (refine ⟨_, _, _, a_off (go_off rfl rfl rfl rfl (by first | rfl | assumption | (simp; done) | (simp [*]; done))) rfl rfl rfl, rfl, ?_⟩)
        (refine ⟨_, _, _, aPt (gN rfl) rfl rfl rfl rfl rfl ?hb rfl, rfl, ?_⟩; case hb => (first | rfl | assumption | (simp; done)))
        (refine nx (aA (gN rfl) rfl rfl rfl rfl rfl) rfl ?_)
        refine ⟨by kernel_rfl, ?_⟩
        show AWp _ _ _ _ _ _ _
        refine aR ?_
        (refine nx (aM (gN rfl) rfl rfl rfl rfl rfl) rfl ?_)
        (refine nx (a_add (gN rfl) rfl rfl rfl rfl rfl rfl (by first | omega | (simp only [List.length_map, List.length_append, List.length_cons, List.length_nil] <;> omega) | (simp <;> omega))) rfl ?_)
        (refine nx (aA (gN rfl) rfl rfl rfl rfl rfl) rfl ?_)
        refine ⟨hkl, wk_sub ⟨rfl, rfl, rfl, ?_, rfl, trivial⟩⟩
        rw [hut]; rfl
      | false =>
        rw [hu, Bool.false_or] at hut
        refine AWp.wk (wk_sub (s' := [(5, .val (.lst (X.map Tm.cv))), (6, .val (.lst (Y.map Tm.cv))), (7, .val (.i i)), (8, .val (.b false)), (9, .val (.i k))]) ⟨rfl, rfl, rfl, by rw [← hu]; rfl, rfl, trivial⟩) ?_
        refine aD (by kernel_rfl) (by kernel_rfl) ?_
        (refine nx (aM (gN rfl) rfl rfl rfl rfl rfl) rfl ?_)
        (refine nx (aM (gN rfl) rfl rfl rfl rfl rfl) rfl ?_)
        (refine nx (aM (gd_on rfl rfl rfl rfl (by first | rfl | assumption | (simp; done))) rfl rfl rfl rfl rfl) rfl ?_)
        (refine nx (aM (gd_on rfl rfl rfl rfl (by first | rfl | assumption | (simp; done))) rfl rfl rfl rfl rfl) rfl ?_)
        (refine nx (a_index (j := k) (gd_on rfl rfl rfl rfl (by first | rfl | assumption | (simp; done))) rfl rfl rfl rfl rfl rfl rfl rfl rfl (hx') rfl (hsX)) rfl ?_)
        (refine nx (a_load_ad (gd_on rfl rfl rfl rfl (by first | rfl | assumption | (simp; done))) rfl rfl rfl rfl rfl rfl rfl rfl rfl) rfl ?_)
        (refine nx (aM (gd_on rfl rfl rfl rfl (by first | rfl | assumption | (simp; done))) rfl rfl rfl rfl rfl) rfl ?_)
        (refine nx (aM (gd_on rfl rfl rfl rfl (by first | rfl | assumption | (simp; done))) rfl rfl rfl rfl rfl) rfl ?_)
        (refine nx (a_index (j := i) (gd_on rfl rfl rfl rfl (by first | rfl | assumption | (simp; done))) rfl rfl rfl rfl rfl rfl rfl rfl rfl (hy') rfl (hsY)) rfl ?_)
        (refine nx (a_load_ad (gd_on rfl rfl rfl rfl (by first | rfl | assumption | (simp; done))) rfl rfl rfl rfl rfl rfl rfl rfl rfl) rfl ?_)
        (refine nx (a_call (gd_on rfl rfl rfl rfl (by first | rfl | assumption | (simp; done))) rfl rfl rfl rfl rfl (rGreater_abs w x hxf.1 hxf.2.1 hxf.2.2 y hyf.1 hyf.2.1 hyf.2.2)) rfl ?_)
        (refine ⟨_, _, _, aPf (gN rfl) rfl rfl rfl rfl rfl ?hb rfl, rfl, ?_⟩; case hb => (first | rfl | assumption | (simp; done)))
        (refine nx (aA (gN rfl) rfl rfl rfl rfl rfl) rfl ?_)
        refine ⟨by kernel_rfl, ?_⟩
        show AWp _ _ _ _ _ _ _
        refine aR ?_
        (refine nx (aM (gN rfl) rfl rfl rfl rfl rfl) rfl ?_)
        (refine nx (a_add (gN rfl) rfl rfl rfl rfl rfl rfl (by first | omega | (simp only [List.length_map, List.length_append, List.length_cons, List.length_nil] <;> omega) | (simp <;> omega))) rfl ?_)
        (refine nx (aA (gN rfl) rfl rfl rfl rfl rfl) rfl ?_)
        refine ⟨hkl, wk_sub ⟨rfl, rfl, rfl, ?_, rfl, trivial⟩⟩
        rw [hut]; rfl
    · have hkl : k = X.length := by
        have : ¬ k < X.length := by simpa using hlt2
        omega
      subst hkl
      refine aE ?_
      show AWp _ _ _ _ _ _ _
      refine aS (aR ?_)
      (refine nx (aM (gN rfl) rfl rfl rfl rfl rfl) rfl ?_)
      (refine nx (a_not (gN rfl) rfl rfl rfl rfl rfl) rfl ?_)
      show AWp _ _ _ _ _ _ _
      refine aC rfl (fun hn => ?_) (fun hn => ?_)
      · have hn : (!undB14 (X.take X.length) y) = true := hn
        rw [List.take_length] at hn
        have hno : Y.all (undB14 X) = false := by
          rw [← Bool.not_eq_true, List.all_eq_true]
          intro h
          rw [h y (List.mem_of_getElem? hy)] at hn; cases hn
        rw [hno, Bool.and_false]
        refine aS (aR ?_)
        (refine nx (aA (gN rfl) rfl rfl rfl rfl rfl) rfl ?_)
        show AWp _ _ _ _ _ _ _
        exact aT (And.intro (.inr rfl) rfl)
      · have hn : (!undB14 (X.take X.length) y) = false := hn
        rw [List.take_length] at hn
        refine aK ?_
        show AWp _ _ _ _ _ _ _
        refine aR ?_
        (refine nx (aM (gN rfl) rfl rfl rfl rfl rfl) rfl ?_)
        (refine nx (a_add (gN rfl) rfl rfl rfl rfl rfl rfl (by first | omega | (simp only [List.length_map, List.length_append, List.length_cons, List.length_nil] <;> omega) | (simp <;> omega))) rfl ?_)
        (refine nx (aA (gN rfl) rfl rfl rfl rfl rfl) rfl ?_)
        refine ⟨hil, ?_, wk_sub ⟨rfl, rfl, rfl, trivial⟩⟩
        intro z hz
        rw [List.take_add_one, hy, List.mem_append] at hz
        rcases hz with hz | hz
        · exact hI z hz
        · simp at hz; rw [hz]; simpa using hn
  · have hil : i = Y.length := by
      have : ¬ i < Y.length := by simpa using hlt
      omega
    subst hil
    rw [List.take_length] at hI
    rw [List.all_eq_true.2 hI, Bool.and_true]
    have e : decide (0 < X.length) = decide (((X.map Tm.cv).length : Int) > 0) := by simp
    rw [e]
    refine aE ?_
    show AWp _ _ _ _ _ _ _
    refine aS (aR ?_)
    (refine nx (aM (gN rfl) rfl rfl rfl rfl rfl) rfl ?_)
    (refine nx (a_len (gN rfl) rfl rfl rfl rfl rfl rfl rfl) rfl ?_)
    (refine nx (a_gtr (gN rfl) rfl rfl rfl rfl rfl rfl) rfl ?_)
    (refine nx (aA (gN rfl) rfl rfl rfl rfl rfl) rfl ?_)
    show AWp _ _ _ _ _ _ _
    exact aT (And.intro (.inr rfl) rfl)
-- 
theorem rGr14_abs (W : World) (x y : Lt) (hx : x.fit) (hy : y.fit) : AFun Tryz.prog W 108 [x.cw, y.cw] (.val (.b (mulB (tmsL x) (tmsL y)))) := by
  have l1 := tmsL_len x
  have l2 := tmsL_len y
  refine afun_of (rs := [.b (mulB (tmsL x) (tmsL y))]) Tryz.func108 Tryz.ntmps108 rfl rfl rfl rfl ?_
  intro w U hW
  refine aS (aR ?_)
  (refine nx (a_box (gN rfl) rfl rfl rfl rfl rfl) rfl ?_)
  (refine nx (a_box (gN rfl) rfl rfl rfl rfl rfl) rfl ?_)
  (refine nx (aA (gN rfl) rfl rfl rfl rfl rfl) rfl ?_)
  show AWp _ _ _ _ _ _ _
  refine aS (aD (by kernel_rfl) (by kernel_rfl) ?_)
  (refine nx (aL (gN rfl) rfl rfl rfl rfl rfl rfl rfl rfl rfl rfl rfl rfl) rfl ?_)
  (refine nx (a_call (gN rfl) rfl rfl rfl rfl rfl (rTms_abs w x)) rfl ?_)
  (refine nx (aL (gN rfl) rfl rfl rfl rfl rfl rfl rfl rfl rfl rfl rfl rfl) rfl ?_)
  (refine nx (a_call (gN rfl) rfl rfl rfl rfl rfl (rTms_abs w y)) rfl ?_)
  (refine nx (a_call (gN rfl) rfl rfl rfl rfl rfl (rMulti14_abs w (tmsL x) (tmsL y) (tmsL_mem hx) (tmsL_mem hy) (by omega) (by omega))) rfl ?_)
  (refine nx (aA (gN rfl) rfl rfl rfl rfl rfl) rfl ?_)
  refine ⟨by kernel_rfl, ?_⟩
  show AWp _ _ _ _ _ _ _
  exact aT (And.intro (.inr rfl) rfl)
-- 
theorem rWt14_abs (W : World) (l : Lt) (h : l.fit) : AFun Tryz.prog W 78 [l.cw] (.val (.i (wtL l))) := by
  have h1 := h.1.2.2
  have h2 := h.2.2.2
  have f1 : l.a.flat.length = l.a.size := rfl
  have f2 : l.b.flat.length = l.b.size := rfl
  have e : wtL l = ((l.a.flat.map Tm.cv).length : Int) + ((l.b.flat.map Tm.cv).length : Int) := by unfold wtL; rw [List.length_map, List.length_map]; rfl
  rw [e]
  refine afun_of (rs := [.i (((l.a.flat.map Tm.cv).length : Int) + ((l.b.flat.map Tm.cv).length : Int))]) Tryz.func78 Tryz.ntmps78 rfl rfl rfl rfl ?_
  intro w U hW
  refine aS (aR ?_)
  (refine nx (a_box (gN rfl) rfl rfl rfl rfl rfl) rfl ?_)
  (refine nx (aA (gN rfl) rfl rfl rfl rfl rfl) rfl ?_)
  show AWp _ _ _ _ _ _ _
  refine aS (aD (by kernel_rfl) (by kernel_rfl) ?_)
  (refine nx (aF (gN rfl) rfl rfl rfl rfl rfl rfl rfl rfl rfl) rfl ?_)
  (refine nx (aLb (gN rfl) rfl rfl rfl rfl rfl rfl rfl rfl rfl rfl rfl rfl) rfl ?_)
  (refine nx (a_call (gN rfl) rfl rfl rfl rfl rfl (refFlat_abs w l.a h.1.2.1 h1)) rfl ?_)
  (refine nx (a_len (gN rfl) rfl rfl rfl rfl rfl rfl rfl) rfl ?_)
  (refine nx (aF (gN rfl) rfl rfl rfl rfl rfl rfl rfl rfl rfl) rfl ?_)
  (refine nx (aLb (gN rfl) rfl rfl rfl rfl rfl rfl rfl rfl rfl rfl rfl rfl) rfl ?_)
  (refine nx (a_call (gN rfl) rfl rfl rfl rfl rfl (refFlat_abs w l.b h.2.2.1 h2)) rfl ?_)
  (refine nx (a_len (gN rfl) rfl rfl rfl rfl rfl rfl rfl) rfl ?_)
  (refine nx (a_add (gN rfl) rfl rfl rfl rfl rfl rfl (by first | omega | (simp only [List.length_map, List.length_append, List.length_cons, List.length_nil] <;> omega) | (simp <;> omega))) rfl ?_)
  (refine nx (aA (gN rfl) rfl rfl rfl rfl rfl) rfl ?_)
  refine ⟨by kernel_rfl, ?_⟩
  show AWp _ _ _ _ _ _ _
  exact aT (And.intro (.inr rfl) rfl)
-- 
theorem rGst14_abs (W : World) (c : List Lt) (q : Nat) (x : Lt) (hq : c[q]? = some x) (hn : c.length ≤ 100000) (hc : ∀ l ∈ c, l.fit) : AFun Tryz.prog W 79 [.lst (c.map Lt.cv), .i (q : Int)] (.val (.b (gstL c x))) := by
  have hsz := Lt.size_all c
  have hq' := Lt.map_at hq
  have hxf := hc x (List.mem_of_getElem? hq)
  refine afun_of (rs := [.b (gstL c x)]) Tryz.func79 Tryz.ntmps79 rfl rfl rfl rfl ?_
  intro w U hW
  refine aS (aR ?_)
  (refine nx (aA (gN rfl) rfl rfl rfl rfl rfl) rfl ?_)
  show AWp _ _ _ _ _ _ _
  refine aS (aS (aR ?_))
  (refine nx (aA (gN rfl) rfl rfl rfl rfl rfl) rfl ?_)
  show AWp _ _ _ _ _ _ _
  let st : Nat → AS := fun k => [(0, .val (.lst (c.map Lt.cv))), (1, .val (.i q)), (5, .val (.i k))]
  refine aB (awp_countI c.length (fun k => ∀ l ∈ c.take k, mulB (tmsL l) (tmsL x) = false) st (wk_sub ⟨rfl, rfl, rfl, trivial⟩) (by simp) ?_)
  intro k hk hI
  refine aS (aS (aR ?_))
  (refine nx (aM (gN rfl) rfl rfl rfl rfl rfl) rfl ?_)
  (refine nx (aM (gN rfl) rfl rfl rfl rfl rfl) rfl ?_)
  (refine nx (a_len (gN rfl) rfl rfl rfl rfl rfl rfl rfl) rfl ?_)
  (refine nx (a_lss (gN rfl) rfl rfl rfl rfl rfl rfl) rfl ?_)
  show AWp _ _ _ _ _ _ _
  refine aC rfl (fun hlt => ?_) (fun hlt => ?_)
  · have hkl : k < c.length := by simpa using hlt
    obtain ⟨l, hl⟩ : ∃ l, c[k]? = some l := ⟨c[k], List.getElem?_eq_getElem hkl⟩
    have hl' := Lt.map_at hl
    have hlf := hc l (List.mem_of_getElem? hl)
    refine aK ?_
    show AWp _ _ _ _ _ _ _
    refine aS (aB (aS (aD (by kernel_rfl) (by kernel_rfl) ?_)))
    (refine nx (aM (gN rfl) rfl rfl rfl rfl rfl) rfl ?_)
    (refine nx (aM (gN rfl) rfl rfl rfl rfl rfl) rfl ?_)
    (refine nx (a_index (j := k) (gN rfl) rfl rfl rfl rfl rfl rfl rfl rfl rfl (hl') rfl (hsz)) rfl ?_)
    (refine nx (a_load_ad (gN rfl) rfl rfl rfl rfl rfl rfl rfl rfl rfl) rfl ?_)
    (refine nx (aM (gN rfl) rfl rfl rfl rfl rfl) rfl ?_)
    (refine nx (aM (gN rfl) rfl rfl rfl rfl rfl) rfl ?_)
    (refine nx (a_index (j := q) (gN rfl) rfl rfl rfl rfl rfl rfl rfl rfl rfl (hq') rfl (hsz)) rfl ?_)
    (refine nx (a_load_ad (gN rfl) rfl rfl rfl rfl rfl rfl rfl rfl rfl) rfl ?_)
    (refine nx (a_call (gN rfl) rfl rfl rfl rfl rfl (rGr14_abs w l x hlf hxf)) rfl ?_)
    refine ⟨by kernel_rfl, ?_⟩
    show AWp _ _ _ _ _ _ _
    refine aC rfl (fun hg => ?_) (fun hg => ?_)
    · have hg : mulB (tmsL l) (tmsL x) = true := hg
      have hno : gstL c x = false := by unfold gstL; rw [List.any_eq_true.2 ⟨l, List.mem_of_getElem? hl, hg⟩]; rfl
      rw [hno]
      refine aS (aR ?_)
      (refine nx (aA (gN rfl) rfl rfl rfl rfl rfl) rfl ?_)
      show AWp _ _ _ _ _ _ _
      exact aT (And.intro (.inr rfl) rfl)
    · have hg : mulB (tmsL l) (tmsL x) = false := hg
      refine aK ?_
      show AWp _ _ _ _ _ _ _
      refine aR ?_
      (refine nx (aM (gN rfl) rfl rfl rfl rfl rfl) rfl ?_)
      (refine nx (a_add (gN rfl) rfl rfl rfl rfl rfl rfl (by first | omega | (simp only [List.length_map, List.length_append, List.length_cons, List.length_nil] <;> omega) | (simp <;> omega))) rfl ?_)
      (refine nx (aA (gN rfl) rfl rfl rfl rfl rfl) rfl ?_)
      refine ⟨hkl, ?_, wk_sub ⟨rfl, rfl, rfl, trivial⟩⟩
      intro z hz
      rw [List.take_add_one, hl, List.mem_append] at hz
      rcases hz with hz | hz
      · exact hI z hz
      · simp at hz; rw [hz]; exact hg
  · have hkl : k = c.length := by
      have : ¬ k < c.length := by simpa using hlt
      omega
    subst hkl
    rw [List.take_length] at hI
    have hyes : gstL c x = true := by
      unfold gstL
      rw [List.any_eq_false.2 fun l hl => by rw [hI l hl]; decide]; rfl
    rw [hyes]
    refine aE ?_
    show AWp _ _ _ _ _ _ _
    refine aS (aR ?_)
    (refine nx (aA (gN rfl) rfl rfl rfl rfl rfl) rfl ?_)
    show AWp _ _ _ _ _ _ _
    exact aT (And.intro (.inr rfl) rfl)
theorem gstI_at {c : List Lt} {k : Nat} {x : Lt} (h : c[k]? = some x) : gstI c (k : Int) = gstL c x := by unfold gstI; rw [if_pos (by omega), Int.toNat_natCast, h]
theorem wtL_pos (l : Lt) : 0 < wtL l := by have := l.a.size_pos; unfold wtL; omega
theorem hv_facts (c : List Lt) : ∀ k, k ≤ c.length → (hvK c k = (-1, 0) ∧ ∀ j l, j < k → c[j]? = some l → l.neg = false) ∨ ∃ p x, p < k ∧ c[p]? = some x ∧ x.neg = true ∧ hvK c k = ((p : Int), wtL x) ∧ (∀ j l, j < k → c[j]? = some l → l.neg = true → wtL l ≤ wtL x) ∧ ∀ j l, j < p → c[j]? = some l → l.neg = true → wtL l < wtL x
  | 0, _ => .inl ⟨rfl, fun j l h => by omega⟩
  | k + 1, hk => by
    obtain ⟨y, hy⟩ : ∃ y, c[k]? = some y := ⟨c[k], List.getElem?_eq_getElem (by omega)⟩
    have hK : hvK c (k + 1) = if y.neg = true ∧ (hvK c k).2 < wtL y then ((k : Int), wtL y) else hvK c k := by conv => lhs; unfold hvK; rw [hy]
    have hwp := wtL_pos y
    rcases hv_facts c k (by omega) with ⟨h1, h2⟩ | ⟨p, x, hp, hx, hxn, h1, h2, h3⟩
    · by_cases hn : y.neg = true
      · right
        refine ⟨k, y, by omega, hy, hn, by rw [hK, if_pos ⟨hn, by rw [h1]; exact hwp⟩], fun j l hj hl hln => ?_, fun j l hj hl hln => ?_⟩
        · by_cases hjk : j = k
          · subst hjk; rw [hy] at hl; cases hl; exact Int.le_refl _
          · rw [h2 j l (by omega) hl] at hln; cases hln
        · rw [h2 j l hj hl] at hln; cases hln
      · left
        refine ⟨by rw [hK, if_neg (fun h => hn h.1), h1], fun j l hj hl => ?_⟩
        by_cases hjk : j = k
        · subst hjk; rw [hy] at hl; cases hl; simpa using hn
        · exact h2 j l (by omega) hl
    · right
      by_cases hc : y.neg = true ∧ (hvK c k).2 < wtL y
      · rw [h1] at hc
        have hlt : wtL x < wtL y := hc.2
        refine ⟨k, y, by omega, hy, hc.1, by rw [hK, h1, if_pos hc], fun j l hj hl hln => ?_, fun j l hj hl hln => ?_⟩
        · by_cases hjk : j = k
          · subst hjk; rw [hy] at hl; cases hl; exact Int.le_refl _
          · have := h2 j l (by omega) hl hln; omega
        · have := h2 j l hj hl hln; omega
      · refine ⟨p, x, by omega, hx, hxn, by rw [hK, if_neg hc, h1], fun j l hj hl hln => ?_, h3⟩
        by_cases hjk : j = k
        · subst hjk; rw [hy] at hl; cases hl
          rw [h1] at hc
          have : ¬ wtL x < wtL y := fun h => hc ⟨hln, h⟩
          omega
        · exact h2 j l (by omega) hl hln
-- 
theorem rLook14_abs (W : World) (c : List Lt) (hn : c.length ≤ 100000) (hc : ∀ l ∈ c, l.fit) : AFun Tryz.prog W 55 [.lst (c.map Lt.cv)] (.val (.lst ((lokL c).map CV.i))) := by
  have hsz := Lt.size_all c
  refine afun_of (rs := [.lst ((lokL c).map CV.i)]) Tryz.func55 Tryz.ntmps55 rfl rfl rfl rfl ?_
  intro w U hW
  refine aS (aR ?_)
  (refine nx (aA (gN rfl) rfl rfl rfl rfl rfl) rfl ?_)
  show AWp _ _ _ _ _ _ _
  refine aS (aR ?_)
  (refine nx (aA (gN rfl) rfl rfl rfl rfl rfl) rfl ?_)
  show AWp _ _ _ _ _ _ _
  refine aS (aS (aR ?_))
  (refine nx (aA (gN rfl) rfl rfl rfl rfl rfl) rfl ?_)
  show AWp _ _ _ _ _ _ _
  let st : Nat → AS := fun k => [(0, .val (.lst (c.map Lt.cv))), (3, .val (.i (hvK c k).2)), (4, .val (.i k))]
  refine aB (awp_count c.length st (wk_sub ⟨rfl, rfl, rfl, trivial⟩) ?_)
  intro k hk
  refine aS (aS (aR ?_))
  (refine nx (aM (gN rfl) rfl rfl rfl rfl rfl) rfl ?_)
  (refine nx (aM (gN rfl) rfl rfl rfl rfl rfl) rfl ?_)
  (refine nx (a_len (gN rfl) rfl rfl rfl rfl rfl rfl rfl) rfl ?_)
  (refine nx (a_lss (gN rfl) rfl rfl rfl rfl rfl rfl) rfl ?_)
  show AWp _ _ _ _ _ _ _
  refine aC rfl (fun hlt => ?_) (fun hlt => ?_)
  · have hkl : k < c.length := by simpa using hlt
    obtain ⟨x, hx⟩ : ∃ x, c[k]? = some x := ⟨c[k], List.getElem?_eq_getElem hkl⟩
    have hx' := Lt.map_at hx
    have hxf := hc x (List.mem_of_getElem? hx)
    have hK : hvK c (k + 1) = if x.neg = true ∧ (hvK c k).2 < wtL x then ((k : Int), wtL x) else hvK c k := by conv => lhs; unfold hvK; rw [hx]
    refine aK ?_
    show AWp _ _ _ _ _ _ _
    refine aS (aB ?_)
    cases hng : x.neg with
    | true =>
      refine aS (aR ?_)
      (refine nx (aM (gN rfl) rfl rfl rfl rfl rfl) rfl ?_)
      (refine nx (aM (gN rfl) rfl rfl rfl rfl rfl) rfl ?_)
      (refine nx (a_index (j := k) (gN rfl) rfl rfl rfl rfl rfl rfl rfl rfl rfl (hx') rfl (hsz)) rfl ?_)
      (refine nx (a_field_ad (gN rfl) rfl rfl rfl rfl rfl rfl rfl rfl rfl rfl rfl) rfl ?_)
      (refine nx (a_load_ad (gN rfl) rfl rfl rfl rfl rfl rfl rfl rfl rfl) rfl ?_)
      (refine nx (aM (gN rfl) rfl rfl rfl rfl rfl) rfl ?_)
      (refine nx (aM (gd_on rfl rfl rfl rfl (by first | rfl | assumption | (simp; done))) rfl rfl rfl rfl rfl) rfl ?_)
      (refine nx (aM (gd_on rfl rfl rfl rfl (by first | rfl | assumption | (simp; done))) rfl rfl rfl rfl rfl) rfl ?_)
      (refine nx (a_index (j := k) (gd_on rfl rfl rfl rfl (by first | rfl | assumption | (simp; done))) rfl rfl rfl rfl rfl rfl rfl rfl rfl (hx') rfl (hsz)) rfl ?_)
      (refine nx (a_load_ad (gd_on rfl rfl rfl rfl (by first | rfl | assumption | (simp; done))) rfl rfl rfl rfl rfl rfl rfl rfl rfl) rfl ?_)
      (refine nx (a_call (gd_on rfl rfl rfl rfl (by first | rfl | assumption | (simp; done))) rfl rfl rfl rfl rfl (rWt14_abs w x hxf)) rfl ?_)
      (refine nx (aM (gd_on rfl rfl rfl rfl (by first | rfl | assumption | (simp; done))) rfl rfl rfl rfl rfl) rfl ?_)
      (refine nx (a_gtr (gd_on rfl rfl rfl rfl (by first | rfl | assumption | (simp; done))) rfl rfl rfl rfl rfl rfl) rfl ?_)
      (refine ⟨_, _, _, aPt (gN rfl) rfl rfl rfl rfl rfl ?hb rfl, rfl, ?_⟩; case hb => (first | rfl | assumption | (simp; done)))
      show AWp _ _ _ _ _ _ _
      refine aC rfl (fun hg => ?_) (fun hg => ?_)
      · have hg : decide (wtL x > (hvK c k).2) = true := hg
        have e : (hvK c (k + 1)).2 = wtL x := by rw [hK, if_pos ⟨hng, by have := of_decide_eq_true hg; omega⟩]
        refine aR ?_
        (refine nx (aM (gN rfl) rfl rfl rfl rfl rfl) rfl ?_)
        (refine nx (aM (gN rfl) rfl rfl rfl rfl rfl) rfl ?_)
        (refine nx (a_index (j := k) (gN rfl) rfl rfl rfl rfl rfl rfl rfl rfl rfl (hx') rfl (hsz)) rfl ?_)
        (refine nx (a_load_ad (gN rfl) rfl rfl rfl rfl rfl rfl rfl rfl rfl) rfl ?_)
        (refine nx (a_call (gN rfl) rfl rfl rfl rfl rfl (rWt14_abs w x hxf)) rfl ?_)
        (refine nx (aA (gN rfl) rfl rfl rfl rfl rfl) rfl ?_)
        show AWp _ _ _ _ _ _ _
        refine aR ?_
        (refine nx (aM (gN rfl) rfl rfl rfl rfl rfl) rfl ?_)
        (refine nx (a_add (gN rfl) rfl rfl rfl rfl rfl rfl (by first | omega | (simp only [List.length_map, List.length_append, List.length_cons, List.length_nil] <;> omega) | (simp <;> omega))) rfl ?_)
        (refine nx (aA (gN rfl) rfl rfl rfl rfl rfl) rfl ?_)
        refine ⟨hkl, wk_sub ⟨rfl, ?_, rfl, trivial⟩⟩
        rw [e]; rfl
      · have hg : decide (wtL x > (hvK c k).2) = false := hg
        have e : hvK c (k + 1) = hvK c k := by rw [hK, if_neg (fun h => by have := of_decide_eq_false hg; have := h.2; omega)]
        refine aK ?_
        show AWp _ _ _ _ _ _ _
        refine aR ?_
        (refine nx (aM (gN rfl) rfl rfl rfl rfl rfl) rfl ?_)
        (refine nx (a_add (gN rfl) rfl rfl rfl rfl rfl rfl (by first | omega | (simp only [List.length_map, List.length_append, List.length_cons, List.length_nil] <;> omega) | (simp <;> omega))) rfl ?_)
        (refine nx (aA (gN rfl) rfl rfl rfl rfl rfl) rfl ?_)
        refine ⟨hkl, wk_sub ⟨rfl, ?_, rfl, trivial⟩⟩
        rw [e]; rfl
    | false =>
      have e : hvK c (k + 1) = hvK c k := by rw [hK, if_neg (fun h => by rw [hng] at h; cases h.1)]
      refine aS (aR ?_)
      (refine nx (aM (gN rfl) rfl rfl rfl rfl rfl) rfl ?_)
      (refine nx (aM (gN rfl) rfl rfl rfl rfl rfl) rfl ?_)
      (refine nx (a_index (j := k) (gN rfl) rfl rfl rfl rfl rfl rfl rfl rfl rfl (hx') rfl (hsz)) rfl ?_)
      (refine nx (a_field_ad (gN rfl) rfl rfl rfl rfl rfl rfl rfl rfl rfl rfl rfl) rfl ?_)
      (refine nx (a_load_ad (gN rfl) rfl rfl rfl rfl rfl rfl rfl rfl rfl) rfl ?_)
      (refine nx (aM (gN rfl) rfl rfl rfl rfl rfl) rfl ?_)
      (refine ⟨_, _, _, a_off (go_off rfl rfl rfl rfl (by first | rfl | assumption | (simp; done) | (simp [*]; done))) rfl rfl rfl, rfl, ?_⟩)
      (refine ⟨_, _, _, a_off (go_off rfl rfl rfl rfl (by first | rfl | assumption | (simp; done) | (simp [*]; done))) rfl rfl rfl, rfl, ?_⟩)
      (refine ⟨_, _, _, a_off (go_off rfl rfl rfl rfl (by first | rfl | assumption | (simp; done) | (simp [*]; done))) rfl rfl rfl, rfl, ?_⟩)
      (refine ⟨_, _, _, a_off (go_off rfl rfl rfl rfl (by first | rfl | assumption | (simp; done) | (simp [*]; done))) rfl rfl rfl, rfl, ?_⟩)
      (refine ⟨_, _, _, a_off (go_off rfl rfl rfl rfl (by first | rfl | assumption | (simp; done) | (simp [*]; done))) rfl rfl rfl, rfl, ?_⟩)
      (refine ⟨_, _, _, a_off (go_off rfl rfl rfl rfl (by first | rfl | assumption | (simp; done) | (simp [*]; done))) rfl rfl rfl, rfl, ?_⟩)
      (refine ⟨_, _, _, a_off (go_off rfl rfl rfl rfl (by first | rfl | assumption | (simp; done) | (simp [*]; done))) rfl rfl rfl, rfl, ?_⟩)
      (refine ⟨_, _, _, aPf (gN rfl) rfl rfl rfl rfl rfl ?hb rfl, rfl, ?_⟩; case hb => (first | rfl | assumption | (simp; done)))
      show AWp _ _ _ _ _ _ _
      refine aC rfl (fun h => by cases h) (fun _ => ?_)
      refine aK ?_
      show AWp _ _ _ _ _ _ _
      refine aR ?_
      (refine nx (aM (gN rfl) rfl rfl rfl rfl rfl) rfl ?_)
      (refine nx (a_add (gN rfl) rfl rfl rfl rfl rfl rfl (by first | omega | (simp only [List.length_map, List.length_append, List.length_cons, List.length_nil] <;> omega) | (simp <;> omega))) rfl ?_)
      (refine nx (aA (gN rfl) rfl rfl rfl rfl rfl) rfl ?_)
      refine ⟨hkl, wk_sub ⟨rfl, ?_, rfl, trivial⟩⟩
      rw [e]; rfl
  · have hkl : k = c.length := by
      have : ¬ k < c.length := by simpa using hlt
      omega
    subst hkl
    refine aE ?_
    show AWp _ _ _ _ _ _ _
    obtain ⟨M, hM⟩ : ∃ M, M = (hvK c c.length).2 := ⟨_, rfl⟩
    refine AWp.wk (wk_sub (s' := [(0, .val (.lst (c.map Lt.cv))), (3, .val (.i M))]) ⟨rfl, by rw [hM]; rfl, trivial⟩) ?_
    refine aS (aR ?_)
    (refine nx (aA (gN rfl) rfl rfl rfl rfl rfl) rfl ?_)
    show AWp _ _ _ _ _ _ _
    refine aS (aS (aR ?_))
    (refine nx (aA (gN rfl) rfl rfl rfl rfl rfl) rfl ?_)
    show AWp _ _ _ _ _ _ _
    rcases hv_facts c c.length (Nat.le_refl _) with ⟨h1, h2⟩ | ⟨p, x, hp, hx, hxn, h1, h2, h3⟩
    · -- none is Neg
      have hM0 : M = 0 := by rw [hM, h1]
      subst hM0
      have hlk : lokL c = gsK c c.length := by unfold lokL; rw [h1, if_neg (by decide)]
      rw [hlk]
      let st2 : Nat → AS := fun k => [(0, .val (.lst (c.map Lt.cv))), (3, .val (.i 0)), (5, .own (.lst ((gsK c k).map CV.i)) 200068), (200068, .tok 3 1), (6, .val (.i k))]
      refine aB (awp_count c.length st2 ((wk_nil 5 200068 3 1 rfl rfl rfl rfl rfl rfl rfl).trans (wk_sub ⟨rfl, rfl, rfl, rfl, rfl, trivial⟩)) ?_)
      intro k hk
      refine aS (aS (aR ?_))
      (refine nx (aM (gN rfl) rfl rfl rfl rfl rfl) rfl ?_)
      (refine nx (aM (gN rfl) rfl rfl rfl rfl rfl) rfl ?_)
      (refine nx (a_len (gN rfl) rfl rfl rfl rfl rfl rfl rfl) rfl ?_)
      (refine nx (a_lss (gN rfl) rfl rfl rfl rfl rfl rfl) rfl ?_)
      show AWp _ _ _ _ _ _ _
      refine aC rfl (fun hlt => ?_) (fun hlt => ?_)
      · have hkl : k < c.length := by simpa using hlt
        obtain ⟨x, hx⟩ : ∃ x, c[k]? = some x := ⟨c[k], List.getElem?_eq_getElem hkl⟩
        have hgI := gstI_at hx
        have hl3 : ((gsK c k).map CV.i).length ≤ k := by rw [List.length_map]; exact gsK_len c k
        have hl4 := gsK_len c k
        have hsz3 : ∀ x ∈ (gsK c k).map CV.i, x.size = 1 := ints_size _
        refine aK ?_
        show AWp _ _ _ _ _ _ _
        refine aS (aB (aS (aS (aR ?_))))
        (refine nx (aM (gN rfl) rfl rfl rfl rfl rfl) rfl ?_)
        (refine nx (a_gtr (gN rfl) rfl rfl rfl rfl rfl rfl) rfl ?_)
        (refine nx (aM (gN rfl) rfl rfl rfl rfl rfl) rfl ?_)
        (refine ⟨_, _, _, a_off (go_off rfl rfl rfl rfl (by first | rfl | assumption | (simp; done) | (simp [*]; done))) rfl rfl rfl, rfl, ?_⟩)
        (refine ⟨_, _, _, a_off (go_off rfl rfl rfl rfl (by first | rfl | assumption | (simp; done) | (simp [*]; done))) rfl rfl rfl, rfl, ?_⟩)
        (refine ⟨_, _, _, a_off (go_off rfl rfl rfl rfl (by first | rfl | assumption | (simp; done) | (simp [*]; done))) rfl rfl rfl, rfl, ?_⟩)
        (refine ⟨_, _, _, a_off (go_off rfl rfl rfl rfl (by first | rfl | assumption | (simp; done) | (simp [*]; done))) rfl rfl rfl, rfl, ?_⟩)
        (refine ⟨_, _, _, a_off (go_off rfl rfl rfl rfl (by first | rfl | assumption | (simp; done) | (simp [*]; done))) rfl rfl rfl, rfl, ?_⟩)
        (refine ⟨_, _, _, aPf (gN rfl) rfl rfl rfl rfl rfl ?hb rfl, rfl, ?_⟩; case hb => (first | rfl | assumption | (simp; done)))
        (refine nx (aM (gN rfl) rfl rfl rfl rfl rfl) rfl ?_)
        (refine ⟨_, _, _, a_off (go_off rfl rfl rfl rfl (by first | rfl | assumption | (simp; done) | (simp [*]; done))) rfl rfl rfl, rfl, ?_⟩)
        (refine ⟨_, _, _, a_off (go_off rfl rfl rfl rfl (by first | rfl | assumption | (simp; done) | (simp [*]; done))) rfl rfl rfl, rfl, ?_⟩)
        (refine ⟨_, _, _, a_off (go_off rfl rfl rfl rfl (by first | rfl | assumption | (simp; done) | (simp [*]; done))) rfl rfl rfl, rfl, ?_⟩)
        (refine ⟨_, _, _, a_off (go_off rfl rfl rfl rfl (by first | rfl | assumption | (simp; done) | (simp [*]; done))) rfl rfl rfl, rfl, ?_⟩)
        (refine ⟨_, _, _, a_off (go_off rfl rfl rfl rfl (by first | rfl | assumption | (simp; done) | (simp [*]; done))) rfl rfl rfl, rfl, ?_⟩)
        (refine ⟨_, _, _, a_off (go_off rfl rfl rfl rfl (by first | rfl | assumption | (simp; done) | (simp [*]; done))) rfl rfl rfl, rfl, ?_⟩)
        (refine ⟨_, _, _, a_off (go_off rfl rfl rfl rfl (by first | rfl | assumption | (simp; done) | (simp [*]; done))) rfl rfl rfl, rfl, ?_⟩)
        (refine ⟨_, _, _, aPf (gN rfl) rfl rfl rfl rfl rfl ?hb rfl, rfl, ?_⟩; case hb => (first | rfl | assumption | (simp; done)))
        show AWp _ _ _ _ _ _ _
        refine aC rfl (fun h => by cases h) (fun _ => ?_)
        refine aK ?_
        show AWp _ _ _ _ _ _ _
        refine aS (aR ?_)
        (refine nx (aM (gN rfl) rfl rfl rfl rfl rfl) rfl ?_)
        (refine nx (a_eql (gN rfl) rfl rfl rfl rfl rfl rfl) rfl ?_)
        (refine nx (aM (gN rfl) rfl rfl rfl rfl rfl) rfl ?_)
        (refine nx (aM (gd_on rfl rfl rfl rfl (by first | rfl | assumption | (simp; done))) rfl rfl rfl rfl rfl) rfl ?_)
        (refine nx (aM (gd_on rfl rfl rfl rfl (by first | rfl | assumption | (simp; done))) rfl rfl rfl rfl rfl) rfl ?_)
        (refine nx (a_call (gd_on rfl rfl rfl rfl (by first | rfl | assumption | (simp; done))) rfl rfl rfl rfl rfl (rGst14_abs w c k x hx hn hc)) rfl ?_)
        (refine ⟨_, _, _, aPt (gN rfl) rfl rfl rfl rfl rfl ?hb rfl, rfl, ?_⟩; case hb => (first | rfl | assumption | (simp; done)))
        show AWp _ _ _ _ _ _ _
        refine aC rfl (fun hg => ?_) (fun hg => ?_)
        · have hg : gstL c x = true := hg
          refine aR ?_
          (refine nx (aM (gN rfl) rfl rfl rfl rfl rfl) rfl ?_)
          (refine nx (aM (gN rfl) rfl rfl rfl rfl rfl) rfl ?_)
          (refine nx (a_bslice (gN rfl) rfl rfl rfl rfl rfl rfl rfl rfl rfl rfl rfl rfl rfl) rfl ?_)
          (refine nx (a_app (gN rfl) rfl rfl rfl rfl rfl rfl rfl rfl rfl rfl rfl rfl rfl rfl rfl (by first | assumption | exact sZ rfl | exact Tm.size_all _ | exact Bd.size_all _ | exact ints_size _ | exact bys_size _ | exact Lt.size_all _) (by first | assumption | exact sZ rfl | exact Tm.size_all _ | exact Bd.size_all _ | exact ints_size _ | exact bys_size _ | exact Lt.size_all _) (by first | omega | (simp only [List.length_map, List.length_append, List.length_cons, List.length_nil] <;> omega) | (simp <;> omega))) rfl ?_)
          (refine nx (aA (gN rfl) rfl rfl rfl rfl rfl) rfl ?_)
          show AWp _ _ _ _ _ _ _
          refine AWp.wk ((wk_sub (s' := [(0, .val (.lst (c.map Lt.cv))), (3, .val (.i 0)), (5, .own (.lst ((gsK c k).map CV.i ++ [CV.i (k : Int)])) 300068), (300068, .tok 3 1), (6, .val (.i k))]) ⟨rfl, rfl, rfl, rfl, rfl, trivial⟩).trans (wk_ren 300068 200068 rfl rfl rfl rfl)) ?_
          refine aR ?_
          (refine nx (aM (gN rfl) rfl rfl rfl rfl rfl) rfl ?_)
          (refine nx (a_add (gN rfl) rfl rfl rfl rfl rfl rfl (by first | omega | (simp only [List.length_map, List.length_append, List.length_cons, List.length_nil] <;> omega) | (simp <;> omega))) rfl ?_)
          (refine nx (aA (gN rfl) rfl rfl rfl rfl rfl) rfl ?_)
          refine ⟨hkl, wk_sub ⟨rfl, rfl, ?_, rfl, rfl, trivial⟩⟩
          show some (AV.own (.lst _) _) = some (AV.own (.lst _) _)
          rw [gsK_succ, if_pos (hgI.trans hg), List.map_append]
          rfl
        · have hg : gstL c x = false := hg
          refine aK ?_
          show AWp _ _ _ _ _ _ _
          refine aR ?_
          (refine nx (aM (gN rfl) rfl rfl rfl rfl rfl) rfl ?_)
          (refine nx (a_add (gN rfl) rfl rfl rfl rfl rfl rfl (by first | omega | (simp only [List.length_map, List.length_append, List.length_cons, List.length_nil] <;> omega) | (simp <;> omega))) rfl ?_)
          (refine nx (aA (gN rfl) rfl rfl rfl rfl rfl) rfl ?_)
          refine ⟨hkl, wk_sub ⟨rfl, rfl, ?_, rfl, rfl, trivial⟩⟩
          show some (AV.own (.lst _) _) = some (AV.own (.lst _) _)
          rw [gsK_succ, if_neg (by rw [hgI, hg]; decide), List.append_nil]
      · have hkl : k = c.length := by
          have : ¬ k < c.length := by simpa using hlt
          omega
        subst hkl
        refine aE ?_
        show AWp _ _ _ _ _ _ _
        refine aS (aR ?_)
        (refine nx (aM (gN rfl) rfl rfl rfl rfl rfl) rfl ?_)
        (refine nx (aA (gN rfl) rfl rfl rfl rfl rfl) rfl ?_)
        show AWp _ _ _ _ _ _ _
        exact aT (And.intro (.inr rfl) rfl)
    · -- the first one of the greatest weight
      have hMx : M = wtL x := by rw [hM, h1]
      have hMp : M > 0 := by rw [hMx]; exact wtL_pos x
      have g0 : decide (M > 0) = true := decide_eq_true hMp
      have g1 : decide (M = 0) = false := decide_eq_false (by omega)
      have hlk : lokL c = [(p : Int)] := by unfold lokL; rw [h1, if_pos (by simp)]
      rw [hlk]
      let st2 : Nat → AS := fun k => [(0, .val (.lst (c.map Lt.cv))), (3, .val (.i M)), (6, .val (.i k))]
      refine aB (awp_countI p (fun _ => True) st2 (wk_sub ⟨rfl, rfl, rfl, trivial⟩) trivial ?_)
      intro k hk _
      have hkl : k < c.length := by omega
      have g2 : decide ((k : Int) < ((c.map Lt.cv).length : Int)) = true := decide_eq_true (by rw [List.length_map]; omega)
      obtain ⟨y, hy⟩ : ∃ y, c[k]? = some y := ⟨c[k], List.getElem?_eq_getElem hkl⟩
      have hy' := Lt.map_at hy
      have hyf := hc y (List.mem_of_getElem? hy)
      refine aS (aS (aR ?_))
      (refine nx (aM (gN rfl) rfl rfl rfl rfl rfl) rfl ?_)
      (refine nx (aM (gN rfl) rfl rfl rfl rfl rfl) rfl ?_)
      (refine nx (a_len (gN rfl) rfl rfl rfl rfl rfl rfl rfl) rfl ?_)
      (refine nx (a_lss (gN rfl) rfl rfl rfl rfl rfl rfl) rfl ?_)
      show AWp _ _ _ _ _ _ _
      refine aC rfl (fun _ => ?_) (fun h => by have h : decide ((k : Int) < ((c.map Lt.cv).length : Int)) = false := h; rw [g2] at h; cases h)
      refine aK ?_
      show AWp _ _ _ _ _ _ _
      refine aS (aB (aS ?_))
      have hend : y.neg = true → wtL y = M → p ≤ k := fun hyn hyw => by
        rcases Nat.lt_or_ge k p with hlt | hge
        · have := h3 k y hlt hy hyn; omega
        · exact hge
      cases hyn : y.neg with
      | false =>
        have hkp : k < p := by
          rcases Nat.lt_or_ge k p with hlt | hge
          · exact hlt
          · have : k = p := by omega
            subst this
            rw [hx] at hy; cases hy
            rw [hxn] at hyn; cases hyn
        refine aS (aR ?_)
        (refine nx (aM (gN rfl) rfl rfl rfl rfl rfl) rfl ?_)
        (refine nx (a_gtr (gN rfl) rfl rfl rfl rfl rfl rfl) rfl ?_)
        (refine nx (aM (gN rfl) rfl rfl rfl rfl rfl) rfl ?_)
        (refine nx (aM (gd_on rfl rfl rfl rfl (by first | rfl | assumption | (simp; done))) rfl rfl rfl rfl rfl) rfl ?_)
        (refine nx (aM (gd_on rfl rfl rfl rfl (by first | rfl | assumption | (simp; done))) rfl rfl rfl rfl rfl) rfl ?_)
        (refine nx (a_index (j := k) (gd_on rfl rfl rfl rfl (by first | rfl | assumption | (simp; done))) rfl rfl rfl rfl rfl rfl rfl rfl rfl (hy') rfl (hsz)) rfl ?_)
        (refine nx (a_field_ad (gd_on rfl rfl rfl rfl (by first | rfl | assumption | (simp; done))) rfl rfl rfl rfl rfl rfl rfl rfl rfl rfl rfl) rfl ?_)
        (refine nx (a_load_ad (gd_on rfl rfl rfl rfl (by first | rfl | assumption | (simp; done))) rfl rfl rfl rfl rfl rfl rfl rfl rfl) rfl ?_)
        (refine ⟨_, _, _, aPt (gN rfl) rfl rfl rfl rfl rfl ?hb rfl, rfl, ?_⟩; case hb => (first | rfl | assumption | (simp; done)))
        (refine nx (aM (gN rfl) rfl rfl rfl rfl rfl) rfl ?_)
        (refine ⟨_, _, _, a_off (go_off rfl rfl rfl rfl (by first | rfl | assumption | (simp; done) | (simp [*]; done))) rfl rfl rfl, rfl, ?_⟩)
        (refine ⟨_, _, _, a_off (go_off rfl rfl rfl rfl (by first | rfl | assumption | (simp; done) | (simp [*]; done))) rfl rfl rfl, rfl, ?_⟩)
        (refine ⟨_, _, _, a_off (go_off rfl rfl rfl rfl (by first | rfl | assumption | (simp; done) | (simp [*]; done))) rfl rfl rfl, rfl, ?_⟩)
        (refine ⟨_, _, _, a_off (go_off rfl rfl rfl rfl (by first | rfl | assumption | (simp; done) | (simp [*]; done))) rfl rfl rfl, rfl, ?_⟩)
        (refine ⟨_, _, _, a_off (go_off rfl rfl rfl rfl (by first | rfl | assumption | (simp; done) | (simp [*]; done))) rfl rfl rfl, rfl, ?_⟩)
        (refine ⟨_, _, _, a_off (go_off rfl rfl rfl rfl (by first | rfl | assumption | (simp; done) | (simp [*]; done))) rfl rfl rfl, rfl, ?_⟩)
        (refine ⟨_, _, _, a_off (go_off rfl rfl rfl rfl (by first | rfl | assumption | (simp; done) | (simp [*]; done))) rfl rfl rfl, rfl, ?_⟩)
        (refine ⟨_, _, _, aPf (gN rfl) rfl rfl rfl rfl rfl ?hb rfl, rfl, ?_⟩; case hb => (first | rfl | assumption | (simp; done)))
        show AWp _ _ _ _ _ _ _
        refine aC rfl (fun h => by cases h) (fun _ => ?_)
        refine aK ?_
        show AWp _ _ _ _ _ _ _
        refine aS (aR ?_)
        (refine nx (aM (gN rfl) rfl rfl rfl rfl rfl) rfl ?_)
        (refine nx (a_eql (gN rfl) rfl rfl rfl rfl rfl rfl) rfl ?_)
        (refine nx (aM (gN rfl) rfl rfl rfl rfl rfl) rfl ?_)
        (refine ⟨_, _, _, a_off (go_off rfl rfl rfl rfl (by first | rfl | assumption | (simp; done) | (simp [*]; done))) rfl rfl rfl, rfl, ?_⟩)
        (refine ⟨_, _, _, a_off (go_off rfl rfl rfl rfl (by first | rfl | assumption | (simp; done) | (simp [*]; done))) rfl rfl rfl, rfl, ?_⟩)
        (refine ⟨_, _, _, a_off (go_off rfl rfl rfl rfl (by first | rfl | assumption | (simp; done) | (simp [*]; done))) rfl rfl rfl, rfl, ?_⟩)
        (refine ⟨_, _, _, aPf (gN rfl) rfl rfl rfl rfl rfl ?hb rfl, rfl, ?_⟩; case hb => (first | rfl | assumption | (simp; done)))
        show AWp _ _ _ _ _ _ _
        refine aC rfl (fun h => by cases h) (fun _ => ?_)
        refine aK ?_
        show AWp _ _ _ _ _ _ _
        refine aR ?_
        (refine nx (aM (gN rfl) rfl rfl rfl rfl rfl) rfl ?_)
        (refine nx (a_add (gN rfl) rfl rfl rfl rfl rfl rfl (by first | omega | (simp only [List.length_map, List.length_append, List.length_cons, List.length_nil] <;> omega) | (simp <;> omega))) rfl ?_)
        (refine nx (aA (gN rfl) rfl rfl rfl rfl rfl) rfl ?_)
        exact ⟨hkp, trivial, wk_sub ⟨rfl, rfl, rfl, trivial⟩⟩
      | true =>
        refine aS (aR ?_)
        (refine nx (aM (gN rfl) rfl rfl rfl rfl rfl) rfl ?_)
        (refine nx (a_gtr (gN rfl) rfl rfl rfl rfl rfl rfl) rfl ?_)
        (refine nx (aM (gN rfl) rfl rfl rfl rfl rfl) rfl ?_)
        (refine nx (aM (gd_on rfl rfl rfl rfl (by first | rfl | assumption | (simp; done))) rfl rfl rfl rfl rfl) rfl ?_)
        (refine nx (aM (gd_on rfl rfl rfl rfl (by first | rfl | assumption | (simp; done))) rfl rfl rfl rfl rfl) rfl ?_)
        (refine nx (a_index (j := k) (gd_on rfl rfl rfl rfl (by first | rfl | assumption | (simp; done))) rfl rfl rfl rfl rfl rfl rfl rfl rfl (hy') rfl (hsz)) rfl ?_)
        (refine nx (a_field_ad (gd_on rfl rfl rfl rfl (by first | rfl | assumption | (simp; done))) rfl rfl rfl rfl rfl rfl rfl rfl rfl rfl rfl) rfl ?_)
        (refine nx (a_load_ad (gd_on rfl rfl rfl rfl (by first | rfl | assumption | (simp; done))) rfl rfl rfl rfl rfl rfl rfl rfl rfl) rfl ?_)
        (refine ⟨_, _, _, aPt (gN rfl) rfl rfl rfl rfl rfl ?hb rfl, rfl, ?_⟩; case hb => (first | rfl | assumption | (simp; done)))
        (refine nx (aM (gN rfl) rfl rfl rfl rfl rfl) rfl ?_)
        (refine nx (aM (gd_on rfl rfl rfl rfl (by first | rfl | assumption | (simp; done))) rfl rfl rfl rfl rfl) rfl ?_)
        (refine nx (aM (gd_on rfl rfl rfl rfl (by first | rfl | assumption | (simp; done))) rfl rfl rfl rfl rfl) rfl ?_)
        (refine nx (a_index (j := k) (gd_on rfl rfl rfl rfl (by first | rfl | assumption | (simp; done))) rfl rfl rfl rfl rfl rfl rfl rfl rfl (hy') rfl (hsz)) rfl ?_)
        (refine nx (a_load_ad (gd_on rfl rfl rfl rfl (by first | rfl | assumption | (simp; done))) rfl rfl rfl rfl rfl rfl rfl rfl rfl) rfl ?_)
        (refine nx (a_call (gd_on rfl rfl rfl rfl (by first | rfl | assumption | (simp; done))) rfl rfl rfl rfl rfl (rWt14_abs w y hyf)) rfl ?_)
        (refine nx (aM (gd_on rfl rfl rfl rfl (by first | rfl | assumption | (simp; done))) rfl rfl rfl rfl rfl) rfl ?_)
        (refine nx (a_eql (gd_on rfl rfl rfl rfl (by first | rfl | assumption | (simp; done))) rfl rfl rfl rfl rfl rfl) rfl ?_)
        (refine ⟨_, _, _, aPt (gN rfl) rfl rfl rfl rfl rfl ?hb rfl, rfl, ?_⟩; case hb => (first | rfl | assumption | (simp; done)))
        show AWp _ _ _ _ _ _ _
        refine aC rfl (fun hg => ?_) (fun hg => ?_)
        · have hg : decide (wtL y = M) = true := hg
          have hkp : k = p := by have := hend hyn (of_decide_eq_true hg); omega
          subst hkp
          refine aS (aR ?_)
          (refine nx (aM (gN rfl) rfl rfl rfl rfl rfl) rfl ?_)
          (refine nx (a_bslice (gN rfl) rfl rfl rfl rfl rfl rfl rfl rfl rfl rfl rfl rfl rfl) rfl ?_)
          (refine nx (aA (gN rfl) rfl rfl rfl rfl rfl) rfl ?_)
          show AWp _ _ _ _ _ _ _
          exact aT (And.intro (.inr rfl) rfl)
        · have hg : decide (wtL y = M) = false := hg
          have hkp : k < p := by
            rcases Nat.lt_or_ge k p with hlt | hge
            · exact hlt
            · have : k = p := by omega
              subst this
              rw [hx] at hy; cases hy
              exact absurd hMx.symm (of_decide_eq_false hg)
          refine aK ?_
          show AWp _ _ _ _ _ _ _
          refine aS (aR ?_)
          (refine nx (aM (gN rfl) rfl rfl rfl rfl rfl) rfl ?_)
          (refine nx (a_eql (gN rfl) rfl rfl rfl rfl rfl rfl) rfl ?_)
          (refine nx (aM (gN rfl) rfl rfl rfl rfl rfl) rfl ?_)
          (refine ⟨_, _, _, a_off (go_off rfl rfl rfl rfl (by first | rfl | assumption | (simp; done) | (simp [*]; done))) rfl rfl rfl, rfl, ?_⟩)
          (refine ⟨_, _, _, a_off (go_off rfl rfl rfl rfl (by first | rfl | assumption | (simp; done) | (simp [*]; done))) rfl rfl rfl, rfl, ?_⟩)
          (refine ⟨_, _, _, a_off (go_off rfl rfl rfl rfl (by first | rfl | assumption | (simp; done) | (simp [*]; done))) rfl rfl rfl, rfl, ?_⟩)
          (refine ⟨_, _, _, aPf (gN rfl) rfl rfl rfl rfl rfl ?hb rfl, rfl, ?_⟩; case hb => (first | rfl | assumption | (simp; done)))
          show AWp _ _ _ _ _ _ _
          refine aC rfl (fun h => by cases h) (fun _ => ?_)
          refine aK ?_
          show AWp _ _ _ _ _ _ _
          refine aR ?_
          (refine nx (aM (gN rfl) rfl rfl rfl rfl rfl) rfl ?_)
          (refine nx (a_add (gN rfl) rfl rfl rfl rfl rfl rfl (by first | omega | (simp only [List.length_map, List.length_append, List.length_cons, List.length_nil] <;> omega) | (simp <;> omega))) rfl ?_)
          (refine nx (aA (gN rfl) rfl rfl rfl rfl rfl) rfl ?_)
          exact ⟨hkp, trivial, wk_sub ⟨rfl, rfl, rfl, trivial⟩⟩
theorem int_at {x : List Int} {k : Nat} {z : Int} (h : x[k]? = some z) : (x.map CV.i)[k]? = some (.i z) := by rw [List.getElem?_map, h]; rfl
def al1 : Lt := ⟨false, ⟨1, []⟩, ⟨0, []⟩⟩

end Go.Proofs.YteegmcfobgpemaaGreat
namespace Go.Proofs.YteegmcfobgpemaaGreat
open Go.RowKit
set_option linter.unusedVariables false
set_option linter.unusedSimpArgs false

end Go.Proofs.YteegmcfobgpemaaGreat
namespace Go.Proofs.YteegmcfobgpemaaGreat
open Go.RowKit
set_option linter.unusedVariables false
set_option linter.unusedSimpArgs false
set_option maxRecDepth 100000
theorem whl_cv (l : Lt) : (whlL l).cv = .row [.i (sgZ l.neg), .lst [l.a.cw, l.b.cw]] := by
  rw [Tm.cv_eq]
  show CV.row [.i (sgZ l.neg), .lst ([l.a, l.b].map Tm.cv)] = _
  simp only [List.map_cons, List.map_nil, Tm.cv_eq]
-- 
set_option maxHeartbeats 1000000 in
theorem whole_abs (W : World) (c : List Lt) (hl : c.length ≤ 1000000) : AFun Tryz.prog W 54 [.lst (c.map Lt.cv)] (.val (whlT c).cw) := by
  have hsz := Lt.size_all c
  refine afun_of (rs := [(whlT c).cw]) Tryz.func54 Tryz.ntmps54 rfl rfl rfl rfl ?_
  intro w U hW
  refine aS (aR ?_)
  (refine nx (a_alloc (gN rfl) rfl rfl rfl rfl rfl rfl rfl rfl rfl rfl) rfl ?_)
  show AWp _ _ _ _ _ _ _
  refine aS (aR ?_)
  (refine nx (a_build (gN rfl) rfl rfl rfl rfl rfl rfl rfl rfl rfl rfl rfl) rfl ?_)
  (refine nx (a_alloc (gN rfl) rfl rfl rfl rfl rfl rfl rfl rfl rfl rfl) rfl ?_)
  (refine nx (aSt (gN rfl) rfl rfl rfl rfl rfl rfl rfl rfl rfl rfl) rfl ?_)
  show AWp _ _ _ _ _ _ _
  refine aS (aS (aR ?_))
  (refine nx (aA (gN rfl) rfl rfl rfl rfl rfl) rfl ?_)
  show AWp _ _ _ _ _ _ _
  refine aB (awp_count c.length (fun k => [(0, .val (.lst (c.map Lt.cv))), (2, .bp 2 0 []), (100002, ⟨5, .row [.i 0, .lst []], 1, 0, [1]⟩), (3, .bp 3 0 []), (100003, ⟨5, .row [.i 0, .lst (((c.take k).map whlL).map Tm.cv)], 200034, 0, [1]⟩), (200034, .tok 50 2), (4, .val (.i k))])
    ((wk_nil 100003 200034 50 2 rfl rfl rfl rfl rfl rfl rfl).trans (wk_sub ⟨rfl, rfl, rfl, rfl, rfl, rfl, rfl, trivial⟩)) ?_)
  intro k hk
  refine aS (aS (aR ?_))
  (refine nx (aM (gN rfl) rfl rfl rfl rfl rfl) rfl ?_)
  (refine nx (aM (gN rfl) rfl rfl rfl rfl rfl) rfl ?_)
  (refine nx (a_len (gN rfl) rfl rfl rfl rfl rfl rfl rfl) rfl ?_)
  (refine nx (a_lss (gN rfl) rfl rfl rfl rfl rfl rfl) rfl ?_)
  show AWp _ _ _ _ _ _ _
  refine aC rfl (fun hc => aK ?_) (fun hc => aE ?_)
  · have hkl : k < c.length := by
      simp only [List.length_map, decide_eq_true_eq] at hc
      omega
    clear hc
    obtain ⟨x, hx⟩ : ∃ x, c[k]? = some x := ⟨c[k], List.getElem?_eq_getElem hkl⟩
    have hx' := Lt.map_at hx
    have hsz2 : ∀ y ∈ ((c.take k).map whlL).map Tm.cv, y.size = 2 := Tm.size_all _
    have hl3 : (((c.take k).map whlL).map Tm.cv).length ≤ 1000000 := by rw [List.length_map, List.length_map, List.length_take]; omega
    have hst : ((c.take (k + 1)).map whlL).map Tm.cv = ((c.take k).map whlL).map Tm.cv ++ [.row [.i (sgZ x.neg), .lst [x.a.cw, x.b.cw]]] := by
      rw [List.take_add_one, hx, Option.toList_some, List.map_append, List.map_append, List.map_singleton, List.map_singleton, whl_cv]
    show AWp _ _ _ _ _ _ _
    refine aS (aB (aS (aR ?_)))
    (refine nx (aA (gN rfl) rfl rfl rfl rfl rfl) rfl ?_)
    show AWp _ _ _ _ _ _ _
    refine awp_mid [(0, .val (.lst (c.map Lt.cv))), (2, .bp 2 0 []), (100002, ⟨5, .row [.i 0, .lst []], 1, 0, [1]⟩), (3, .bp 3 0 []), (100003, ⟨5, .row [.i 0, .lst (((c.take k).map whlL).map Tm.cv)], 200034, 0, [1]⟩), (200034, .tok 50 2), (4, .val (.i k)), (5, .val (.i (sgZ x.neg)))] ?_ ?_
    · refine aS (aR ?_)
      (refine nx (aM (gN rfl) rfl rfl rfl rfl rfl) rfl ?_)
      (refine nx (aM (gN rfl) rfl rfl rfl rfl rfl) rfl ?_)
      (refine nx (a_index (j := k) (gN rfl) rfl rfl rfl rfl rfl rfl rfl rfl rfl (hx') rfl (hsz)) rfl ?_)
      (refine nx (a_field_ad (gN rfl) rfl rfl rfl rfl rfl rfl rfl rfl rfl rfl rfl) rfl ?_)
      (refine nx (a_load_ad (gN rfl) rfl rfl rfl rfl rfl rfl rfl rfl rfl) rfl ?_)
      show AWp _ _ _ _ _ _ _
      refine aC rfl (fun hc2 => ?_) (fun hc2 => ?_)
      · have hc2 : x.neg = true := hc2
        refine aR ?_
        (refine nx (aA (gN rfl) rfl rfl rfl rfl rfl) rfl ?_)
        rw [hc2]
        exact wk_sub ⟨rfl, rfl, rfl, rfl, rfl, rfl, rfl, rfl, trivial⟩
      · have hc2 : x.neg = false := hc2
        refine aK ?_
        rw [hc2]
        exact wk_sub ⟨rfl, rfl, rfl, rfl, rfl, rfl, rfl, rfl, trivial⟩
    refine aD (by kernel_rfl) (by kernel_rfl) ?_
    (refine nx (aF (gN rfl) rfl rfl rfl rfl rfl rfl rfl rfl rfl) rfl ?_)
    (refine nx (a_load_tok (gN rfl) rfl rfl rfl rfl rfl rfl rfl rfl rfl rfl rfl rfl rfl) rfl ?_)
    (refine nx (aM (gN rfl) rfl rfl rfl rfl rfl) rfl ?_)
    (refine nx (aM (gN rfl) rfl rfl rfl rfl rfl) rfl ?_)
    (refine nx (aM (gN rfl) rfl rfl rfl rfl rfl) rfl ?_)
    (refine nx (a_index (j := k) (gN rfl) rfl rfl rfl rfl rfl rfl rfl rfl rfl (hx') rfl (hsz)) rfl ?_)
    (refine nx (a_field_ad (gN rfl) rfl rfl rfl rfl rfl rfl rfl rfl rfl rfl rfl) rfl ?_)
    (refine nx (a_load_ad (gN rfl) rfl rfl rfl rfl rfl rfl rfl rfl rfl) rfl ?_)
    (refine nx (aM (gN rfl) rfl rfl rfl rfl rfl) rfl ?_)
    (refine nx (aM (gN rfl) rfl rfl rfl rfl rfl) rfl ?_)
    (refine nx (a_index (j := k) (gN rfl) rfl rfl rfl rfl rfl rfl rfl rfl rfl (hx') rfl (hsz)) rfl ?_)
    (refine nx (a_field_ad (gN rfl) rfl rfl rfl rfl rfl rfl rfl rfl rfl rfl rfl) rfl ?_)
    (refine nx (a_load_ad (gN rfl) rfl rfl rfl rfl rfl rfl rfl rfl rfl) rfl ?_)
    (refine nx (a_bslice (gN rfl) rfl rfl rfl rfl rfl rfl rfl rfl rfl rfl rfl rfl rfl) rfl ?_)
    (refine nx (a_build (gN rfl) rfl rfl rfl rfl rfl rfl rfl rfl rfl rfl rfl) rfl ?_)
    (refine nx (a_bslice (gN rfl) rfl rfl rfl rfl rfl rfl rfl rfl rfl rfl rfl rfl rfl) rfl ?_)
    (refine nx (a_app (gN rfl) rfl rfl rfl rfl rfl rfl rfl rfl rfl rfl rfl rfl rfl rfl rfl (by first | assumption | exact sZ rfl | exact Tm.size_all _ | exact Bd.size_all _ | exact ints_size _ | exact bys_size _ | exact Lt.size_all _) (by first | assumption | exact sZ rfl | exact Tm.size_all _ | exact Bd.size_all _ | exact ints_size _ | exact bys_size _ | exact Lt.size_all _) (by first | omega | (simp only [List.length_map, List.length_append, List.length_cons, List.length_nil] <;> omega) | (simp <;> omega))) rfl ?_)
    (refine nx (aF (gN rfl) rfl rfl rfl rfl rfl rfl rfl rfl rfl) rfl ?_)
    (refine nx (a_store (gN rfl) rfl rfl rfl rfl rfl rfl rfl rfl rfl rfl) rfl ?_)
    refine ⟨by kernel_rfl, ?_⟩
    show AWp _ _ _ _ _ _ _
    refine aR ?_
    (refine nx (aM (gN rfl) rfl rfl rfl rfl rfl) rfl ?_)
    (refine nx (a_add (gN rfl) rfl rfl rfl rfl rfl rfl (by first | omega | (simp only [List.length_map, List.length_append, List.length_cons, List.length_nil] <;> omega) | (simp <;> omega))) rfl ?_)
    (refine nx (aA (gN rfl) rfl rfl rfl rfl rfl) rfl ?_)
    refine ⟨hkl, Wk.trans (wk_sub (s' := [(0, .val (.lst (c.map Lt.cv))), (2, .bp 2 0 []), (100002, ⟨5, .row [.i 0, .lst []], 1, 0, [1]⟩), (3, .bp 3 0 []), (100003, ⟨5, .row [.i 0, .lst (((c.take (k + 1)).map whlL).map Tm.cv)], 300034, 0, [1]⟩), (300034, .tok 50 2), (4, .val (.i ((k + 1 : Nat) : Int)))]) ⟨rfl, rfl, rfl, rfl, ?_, rfl, rfl, trivial⟩) (wk_ren 300034 200034 rfl rfl rfl rfl)⟩
    rw [hst]
    rfl
  · have hkl : k = c.length := by
      simp only [List.length_map, decide_eq_false_iff_not] at hc
      omega
    subst hkl
    rw [List.take_length]
    show AWp _ _ _ _ _ _ _
    refine aS (aR ?_)
    (refine nx (aL (gN rfl) rfl rfl rfl rfl rfl rfl rfl rfl rfl rfl rfl rfl) rfl ?_)
    (refine nx (aSt (gN rfl) rfl rfl rfl rfl rfl rfl rfl rfl rfl rfl) rfl ?_)
    show AWp _ _ _ _ _ _ _
    exact aT (And.intro (.inr rfl) rfl)
-- 
set_option maxHeartbeats 1000000 in
theorem refAppC_abs (W : World) (s : List Bd) (c : List Lt) (hs : s.length ≤ 1000000) (hl : c.length ≤ 1000000) (hc : ∀ l ∈ c, (l.a.rng ∧ l.a.ok) ∧ l.b.rng ∧ l.b.ok) : AFun Tryz.prog W 36 [.lst (s.map Bd.cv), .lst (c.map Lt.cv)] (.val (.lst ((c.map (appL s)).map Lt.cv))) := by
  have hsz := Lt.size_all c
  refine afun_of (rs := [.lst ((c.map (appL s)).map Lt.cv)]) Tryz.func36 Tryz.ntmps36 rfl rfl rfl rfl ?_
  intro w U hW
  refine aS (aR ?_)
  (refine nx (aA (gN rfl) rfl rfl rfl rfl rfl) rfl ?_)
  show AWp _ _ _ _ _ _ _
  refine aS (aR ?_)
  (refine nx (aA (gN rfl) rfl rfl rfl rfl rfl) rfl ?_)
  show AWp _ _ _ _ _ _ _
  refine aS (aS (aR ?_))
  (refine nx (aA (gN rfl) rfl rfl rfl rfl rfl) rfl ?_)
  show AWp _ _ _ _ _ _ _
  refine aB (awp_count c.length (fun k => [(0, .val (.lst (s.map Bd.cv))), (1, .val (.lst (c.map Lt.cv))), (5, .own (.lst (((c.take k).map (appL s)).map Lt.cv)) 200035), (200035, .tok 52 5), (6, .val (.i k))]) ((wk_nil 5 200035 52 5 rfl rfl rfl rfl rfl rfl rfl).trans (wk_sub ⟨rfl, rfl, rfl, rfl, rfl, trivial⟩)) ?_)
  intro k hk
  have hks := Lt.size_all ((c.take k).map (appL s))
  refine aS (aS (aR ?_))
  (refine nx (aM (gN rfl) rfl rfl rfl rfl rfl) rfl ?_)
  (refine nx (aM (gN rfl) rfl rfl rfl rfl rfl) rfl ?_)
  (refine nx (a_len (gN rfl) rfl rfl rfl rfl rfl rfl rfl) rfl ?_)
  (refine nx (a_lss (gN rfl) rfl rfl rfl rfl rfl rfl) rfl ?_)
  show AWp _ _ _ _ _ _ _
  refine aC rfl (fun hlt => ?_) (fun hlt => ?_)
  · have hkl : k < c.length := by simpa using hlt
    obtain ⟨x, hx⟩ : ∃ x, c[k]? = some x := ⟨c[k], List.getElem?_eq_getElem hkl⟩
    have hx' := Lt.map_at hx
    have hxm := List.mem_of_getElem? hx
    obtain ⟨⟨r1, o1⟩, r2, o2⟩ := hc x hxm
    have hkn : (((c.take k).map (appL s)).map Lt.cv).length ≤ 1000000 := by rw [List.length_map, List.length_map, List.length_take]; omega
    have hst : ((c.take (k + 1)).map (appL s)).map Lt.cv = ((c.take k).map (appL s)).map Lt.cv ++ [(appL s x).cw] := by
      rw [List.take_add_one, hx, Option.toList_some, List.map_append, List.map_append]; rfl
    refine aK ?_
    show AWp _ _ _ _ _ _ _
    refine aS (aB (aD (by kernel_rfl) (by kernel_rfl) ?_))
    (refine nx (aM (gN rfl) rfl rfl rfl rfl rfl) rfl ?_)
    (refine nx (aM (gN rfl) rfl rfl rfl rfl rfl) rfl ?_)
    (refine nx (aM (gN rfl) rfl rfl rfl rfl rfl) rfl ?_)
    (refine nx (a_index (j := k) (gN rfl) rfl rfl rfl rfl rfl rfl rfl rfl rfl (hx') rfl (hsz)) rfl ?_)
    (refine nx (a_field_ad (gN rfl) rfl rfl rfl rfl rfl rfl rfl rfl rfl rfl rfl) rfl ?_)
    (refine nx (a_load_ad (gN rfl) rfl rfl rfl rfl rfl rfl rfl rfl rfl) rfl ?_)
    (refine nx (aM (gN rfl) rfl rfl rfl rfl rfl) rfl ?_)
    (refine nx (aM (gN rfl) rfl rfl rfl rfl rfl) rfl ?_)
    (refine nx (aM (gN rfl) rfl rfl rfl rfl rfl) rfl ?_)
    (refine nx (a_index (j := k) (gN rfl) rfl rfl rfl rfl rfl rfl rfl rfl rfl (hx') rfl (hsz)) rfl ?_)
    (refine nx (a_field_ad (gN rfl) rfl rfl rfl rfl rfl rfl rfl rfl rfl rfl rfl) rfl ?_)
    (refine nx (a_load_ad (gN rfl) rfl rfl rfl rfl rfl rfl rfl rfl rfl) rfl ?_)
    (refine nx (a_call (gN rfl) rfl rfl rfl rfl rfl (refApply_abs w s (by omega) x.a r1 o1)) rfl ?_)
    (refine nx (aM (gN rfl) rfl rfl rfl rfl rfl) rfl ?_)
    (refine nx (aM (gN rfl) rfl rfl rfl rfl rfl) rfl ?_)
    (refine nx (aM (gN rfl) rfl rfl rfl rfl rfl) rfl ?_)
    (refine nx (a_index (j := k) (gN rfl) rfl rfl rfl rfl rfl rfl rfl rfl rfl (hx') rfl (hsz)) rfl ?_)
    (refine nx (a_field_ad (gN rfl) rfl rfl rfl rfl rfl rfl rfl rfl rfl rfl rfl) rfl ?_)
    (refine nx (a_load_ad (gN rfl) rfl rfl rfl rfl rfl rfl rfl rfl rfl) rfl ?_)
    (refine nx (a_call (gN rfl) rfl rfl rfl rfl rfl (refApply_abs w s (by omega) x.b r2 o2)) rfl ?_)
    (refine nx (a_build (gN rfl) rfl rfl rfl rfl rfl rfl rfl rfl rfl rfl rfl) rfl ?_)
    (refine nx (a_bslice (gN rfl) rfl rfl rfl rfl rfl rfl rfl rfl rfl rfl rfl rfl rfl) rfl ?_)
    (refine nx (a_app (gN rfl) rfl rfl rfl rfl rfl rfl rfl rfl rfl rfl rfl rfl rfl rfl rfl (by first | assumption | exact sZ rfl | exact Tm.size_all _ | exact Bd.size_all _ | exact ints_size _ | exact bys_size _ | exact Lt.size_all _) (by first | assumption | exact sZ rfl | exact Tm.size_all _ | exact Bd.size_all _ | exact ints_size _ | exact bys_size _ | exact Lt.size_all _) (by first | omega | (simp only [List.length_map, List.length_append, List.length_cons, List.length_nil] <;> omega) | (simp <;> omega))) rfl ?_)
    (refine nx (aA (gN rfl) rfl rfl rfl rfl rfl) rfl ?_)
    refine ⟨by kernel_rfl, ?_⟩
    show AWp _ _ _ _ _ _ _
    refine aR ?_
    (refine nx (aM (gN rfl) rfl rfl rfl rfl rfl) rfl ?_)
    (refine nx (a_add (gN rfl) rfl rfl rfl rfl rfl rfl (by first | omega | (simp only [List.length_map, List.length_append, List.length_cons, List.length_nil] <;> omega) | (simp <;> omega))) rfl ?_)
    (refine nx (aA (gN rfl) rfl rfl rfl rfl rfl) rfl ?_)
    refine ⟨hkl, Wk.trans (wk_sub (s' := [(0, .val (.lst (s.map Bd.cv))), (1, .val (.lst (c.map Lt.cv))), (5, .own (.lst (((c.take (k + 1)).map (appL s)).map Lt.cv)) 300035), (300035, .tok 52 5), (6, .val (.i ((k + 1 : Nat) : Int)))]) ⟨rfl, rfl, ?_, rfl, rfl, trivial⟩) (wk_ren 300035 200035 rfl rfl rfl rfl)⟩
    rw [hst]
    rfl
  · have hkl : k = c.length := by
      have : ¬ k < c.length := by simpa using hlt
      omega
    subst hkl
    rw [List.take_length]
    refine aE ?_
    show AWp _ _ _ _ _ _ _
    refine aS (aR ?_)
    (refine nx (aM (gN rfl) rfl rfl rfl rfl rfl) rfl ?_)
    (refine nx (aA (gN rfl) rfl rfl rfl rfl rfl) rfl ?_)
    show AWp _ _ _ _ _ _ _
    exact aT (And.intro (.inr rfl) rfl)
-- 
theorem rWithout_abs (W : World) (c : List Lt) (i : Int) (hl : c.length ≤ 100000) : AFun Tryz.prog W 35 [.lst (c.map Lt.cv), .i i] (.val (.lst ((offD c i c.length).map Lt.cv))) := by
  have hsz := Lt.size_all c
  refine afun_of (rs := [.lst ((offD c i c.length).map Lt.cv)]) Tryz.func35 Tryz.ntmps35 rfl rfl rfl rfl ?_
  intro w U hW
  refine aS (aR ?_)
  (refine nx (aA (gN rfl) rfl rfl rfl rfl rfl) rfl ?_)
  show AWp _ _ _ _ _ _ _
  refine aS (aR ?_)
  (refine nx (aA (gN rfl) rfl rfl rfl rfl rfl) rfl ?_)
  show AWp _ _ _ _ _ _ _
  refine aS (aS (aR ?_))
  (refine nx (aA (gN rfl) rfl rfl rfl rfl rfl) rfl ?_)
  show AWp _ _ _ _ _ _ _
  refine aB (awp_count c.length (fun k => [(0, .val (.lst (c.map Lt.cv))), (1, .val (.i i)), (5, .own (.lst ((offD c i k).map Lt.cv)) 200022), (200022, .tok 52 5), (6, .val (.i k))]) ((wk_nil 5 200022 52 5 rfl rfl rfl rfl rfl rfl rfl).trans (wk_sub ⟨rfl, rfl, rfl, rfl, rfl, trivial⟩)) ?_)
  intro k hk
  have hks := Lt.size_all (offD c i k)
  refine aS (aS (aR ?_))
  (refine nx (aM (gN rfl) rfl rfl rfl rfl rfl) rfl ?_)
  (refine nx (aM (gN rfl) rfl rfl rfl rfl rfl) rfl ?_)
  (refine nx (a_len (gN rfl) rfl rfl rfl rfl rfl rfl rfl) rfl ?_)
  (refine nx (a_lss (gN rfl) rfl rfl rfl rfl rfl rfl) rfl ?_)
  show AWp _ _ _ _ _ _ _
  refine aC rfl (fun hlt => ?_) (fun hlt => ?_)
  · have hkl : k < c.length := by simpa using hlt
    obtain ⟨x, hx⟩ : ∃ x, c[k]? = some x := ⟨c[k], List.getElem?_eq_getElem hkl⟩
    have hx' := Lt.map_at hx
    have hS := offD_succ (i := i) hx
    have hkn2 : (offD c i k).length ≤ 100000 := Nat.le_trans (offD_len c i k) (by omega)
    have hkn : ((offD c i k).map Lt.cv).length ≤ 100000 := by rw [List.length_map]; exact hkn2
    refine aK ?_
    show AWp _ _ _ _ _ _ _
    refine aS (aB (aS (aR ?_)))
    (refine nx (aM (gN rfl) rfl rfl rfl rfl rfl) rfl ?_)
    (refine nx (aM (gN rfl) rfl rfl rfl rfl rfl) rfl ?_)
    (refine nx (a_neq (gN rfl) rfl rfl rfl rfl rfl rfl) rfl ?_)
    show AWp _ _ _ _ _ _ _
    refine aC rfl (fun hq => ?_) (fun hq => ?_)
    · have hq : ¬ (k : Int) = i := by simpa using hq
      rw [if_neg hq] at hS
      refine aR ?_
      (refine nx (aM (gN rfl) rfl rfl rfl rfl rfl) rfl ?_)
      (refine nx (aM (gN rfl) rfl rfl rfl rfl rfl) rfl ?_)
      (refine nx (aM (gN rfl) rfl rfl rfl rfl rfl) rfl ?_)
      (refine nx (a_index (j := k) (gN rfl) rfl rfl rfl rfl rfl rfl rfl rfl rfl (hx') rfl (hsz)) rfl ?_)
      (refine nx (a_load_ad (gN rfl) rfl rfl rfl rfl rfl rfl rfl rfl rfl) rfl ?_)
      (refine nx (a_bslice (gN rfl) rfl rfl rfl rfl rfl rfl rfl rfl rfl rfl rfl rfl rfl) rfl ?_)
      (refine nx (a_app (gN rfl) rfl rfl rfl rfl rfl rfl rfl rfl rfl rfl rfl rfl rfl rfl rfl (by first | assumption | exact sZ rfl | exact Tm.size_all _ | exact Bd.size_all _ | exact ints_size _ | exact bys_size _ | exact Lt.size_all _) (by first | assumption | exact sZ rfl | exact Tm.size_all _ | exact Bd.size_all _ | exact ints_size _ | exact bys_size _ | exact Lt.size_all _) (by first | omega | (simp only [List.length_map, List.length_append, List.length_cons, List.length_nil] <;> omega) | (simp <;> omega))) rfl ?_)
      (refine nx (aA (gN rfl) rfl rfl rfl rfl rfl) rfl ?_)
      show AWp _ _ _ _ _ _ _
      refine aR ?_
      (refine nx (aM (gN rfl) rfl rfl rfl rfl rfl) rfl ?_)
      (refine nx (a_add (gN rfl) rfl rfl rfl rfl rfl rfl (by first | omega | (simp only [List.length_map, List.length_append, List.length_cons, List.length_nil] <;> omega) | (simp <;> omega))) rfl ?_)
      (refine nx (aA (gN rfl) rfl rfl rfl rfl rfl) rfl ?_)
      refine ⟨hkl, Wk.trans (wk_sub (s' := [(0, .val (.lst (c.map Lt.cv))), (1, .val (.i i)), (5, .own (.lst ((offD c i (k + 1)).map Lt.cv)) 300022), (300022, .tok 52 5), (6, .val (.i ((k + 1 : Nat) : Int)))]) ⟨rfl, rfl, ?_, rfl, rfl, trivial⟩) (wk_ren 300022 200022 rfl rfl rfl rfl)⟩
      show some (AV.own (.lst _) _) = some (AV.own (.lst _) _)
      rw [hS, List.map_append]; rfl
    · have hq : (k : Int) = i := by simpa using hq
      rw [if_pos hq, List.append_nil] at hS
      refine aK ?_
      show AWp _ _ _ _ _ _ _
      refine aR ?_
      (refine nx (aM (gN rfl) rfl rfl rfl rfl rfl) rfl ?_)
      (refine nx (a_add (gN rfl) rfl rfl rfl rfl rfl rfl (by first | omega | (simp only [List.length_map, List.length_append, List.length_cons, List.length_nil] <;> omega) | (simp <;> omega))) rfl ?_)
      (refine nx (aA (gN rfl) rfl rfl rfl rfl rfl) rfl ?_)
      refine ⟨hkl, wk_sub ⟨rfl, rfl, ?_, rfl, rfl, trivial⟩⟩
      show some (AV.own (.lst _) _) = some (AV.own (.lst _) _)
      rw [hS]
  · have hkl : k = c.length := by
      have : ¬ k < c.length := by simpa using hlt
      omega
    subst hkl
    refine aE ?_
    show AWp _ _ _ _ _ _ _
    refine aS (aR ?_)
    (refine nx (aM (gN rfl) rfl rfl rfl rfl rfl) rfl ?_)
    (refine nx (aA (gN rfl) rfl rfl rfl rfl rfl) rfl ?_)
    show AWp _ _ _ _ _ _ _
    exact aT (And.intro (.inr rfl) rfl)
-- 
theorem rWithoutO_abs (c : List Lt) (i : Int) (hl : c.length ≤ 100000) : AFunO Tryz.prog 35 [] [.val (.lst (c.map Lt.cv)), .val (.i i)] (.sl 300107 0 (offD c i c.length).length 5) [(300107, .mrow 52 5 ((offD c i c.length).map Lt.cv))] := by
  have hsz := Lt.size_all c
  refine afunO_of Tryz.func35 Tryz.ntmps35 rfl rfl rfl rfl rfl rfl ?_
  intro w U hU
  refine aS (aR ?_)
  (refine nx (aA (gN rfl) rfl rfl rfl rfl rfl) rfl ?_)
  show AWp _ _ _ _ _ _ _
  refine aS (aR ?_)
  (refine nx (aA (gN rfl) rfl rfl rfl rfl rfl) rfl ?_)
  show AWp _ _ _ _ _ _ _
  refine aS (aS (aR ?_))
  (refine nx (aA (gN rfl) rfl rfl rfl rfl rfl) rfl ?_)
  show AWp _ _ _ _ _ _ _
  refine aB (awp_count c.length (fun k => [(0, .val (.lst (c.map Lt.cv))), (1, .val (.i i)), (5, .sl 300107 0 (offD c i k).length 5), (300107, .mrow 52 5 ((offD c i k).map Lt.cv)), (6, .val (.i k))]) ((wk_nilM 5 300107 52 5 rfl rfl rfl rfl rfl).trans (wk_sub ⟨rfl, rfl, rfl, rfl, rfl, trivial⟩)) ?_)
  intro k hk
  have hks := Lt.size_all (offD c i k)
  refine aS (aS (aR ?_))
  (refine nx (aM (gN rfl) rfl rfl rfl rfl rfl) rfl ?_)
  (refine nx (aM (gN rfl) rfl rfl rfl rfl rfl) rfl ?_)
  (refine nx (a_len (gN rfl) rfl rfl rfl rfl rfl rfl rfl) rfl ?_)
  (refine nx (a_lss (gN rfl) rfl rfl rfl rfl rfl rfl) rfl ?_)
  show AWp _ _ _ _ _ _ _
  refine aC rfl (fun hlt => ?_) (fun hlt => ?_)
  · have hkl : k < c.length := by simpa using hlt
    obtain ⟨x, hx⟩ : ∃ x, c[k]? = some x := ⟨c[k], List.getElem?_eq_getElem hkl⟩
    have hx' := Lt.map_at hx
    have hS := offD_succ (i := i) hx
    have hlm : ((offD c i k).map Lt.cv).length = (offD c i k).length := List.length_map ..
    have hkn : (offD c i k).length ≤ 100000 := Nat.le_trans (offD_len c i k) (by omega)
    refine aK ?_
    show AWp _ _ _ _ _ _ _
    refine aS (aB (aS (aR ?_)))
    (refine nx (aM (gN rfl) rfl rfl rfl rfl rfl) rfl ?_)
    (refine nx (aM (gN rfl) rfl rfl rfl rfl rfl) rfl ?_)
    (refine nx (a_neq (gN rfl) rfl rfl rfl rfl rfl rfl) rfl ?_)
    show AWp _ _ _ _ _ _ _
    refine aC rfl (fun hq => ?_) (fun hq => ?_)
    · have hq : ¬ (k : Int) = i := by simpa using hq
      rw [if_neg hq] at hS
      refine aR ?_
      (refine nx (aM (gN rfl) rfl rfl rfl rfl rfl) rfl ?_)
      (refine nx (aM (gN rfl) rfl rfl rfl rfl rfl) rfl ?_)
      (refine nx (aM (gN rfl) rfl rfl rfl rfl rfl) rfl ?_)
      (refine nx (a_index (j := k) (gN rfl) rfl rfl rfl rfl rfl rfl rfl rfl rfl (hx') rfl (hsz)) rfl ?_)
      (refine nx (a_load_ad (gN rfl) rfl rfl rfl rfl rfl rfl rfl rfl rfl) rfl ?_)
      (refine nx (a_bslice (gN rfl) rfl rfl rfl rfl rfl rfl rfl rfl rfl rfl rfl rfl rfl) rfl ?_)
      (refine nx (a_appM 300108 (gN rfl) rfl rfl rfl rfl rfl rfl rfl rfl rfl rfl rfl rfl rfl (by first | rfl | omega | (simp only [List.length_set, List.length_map, List.length_append, List.length_cons, List.length_nil] <;> omega) | (simp <;> omega)) (by first | assumption | exact sZ rfl | exact Tm.size_all _ | exact Bd.size_all _ | exact ints_size _ | exact bys_size _ | exact Lt.size_all _) (by first | omega | (simp only [List.length_map, List.length_append, List.length_cons, List.length_nil] <;> omega) | (simp <;> omega))) rfl ?_)
      (refine nx (aA (gN rfl) rfl rfl rfl rfl rfl) rfl ?_)
      show AWp _ _ _ _ _ _ _
      refine aR ?_
      (refine nx (aM (gN rfl) rfl rfl rfl rfl rfl) rfl ?_)
      (refine nx (a_add (gN rfl) rfl rfl rfl rfl rfl rfl (by first | omega | (simp only [List.length_map, List.length_append, List.length_cons, List.length_nil] <;> omega) | (simp <;> omega))) rfl ?_)
      (refine nx (aA (gN rfl) rfl rfl rfl rfl rfl) rfl ?_)
      refine ⟨hkl, Wk.trans (wk_sub (s' := [(0, .val (.lst (c.map Lt.cv))), (1, .val (.i i)), (5, .sl 300108 0 (offD c i (k + 1)).length 5), (300108, .mrow 52 5 ((offD c i (k + 1)).map Lt.cv)), (6, .val (.i ((k + 1 : Nat) : Int)))]) ⟨rfl, rfl, ?_, ?_, rfl, trivial⟩) (wk_ren 300108 300107 rfl rfl (by kernel_rfl) (by kernel_rfl))⟩
      · show some (AV.sl _ _ _ _) = some (AV.sl _ _ _ _)
        rw [hS, List.length_append, ← hlm]; rfl
      · show some (AV.mrow _ _ _) = some (AV.mrow _ _ _)
        rw [hS, List.map_append]; rfl
    · have hq : (k : Int) = i := by simpa using hq
      rw [if_pos hq, List.append_nil] at hS
      refine aK ?_
      show AWp _ _ _ _ _ _ _
      refine aR ?_
      (refine nx (aM (gN rfl) rfl rfl rfl rfl rfl) rfl ?_)
      (refine nx (a_add (gN rfl) rfl rfl rfl rfl rfl rfl (by first | omega | (simp only [List.length_map, List.length_append, List.length_cons, List.length_nil] <;> omega) | (simp <;> omega))) rfl ?_)
      (refine nx (aA (gN rfl) rfl rfl rfl rfl rfl) rfl ?_)
      refine ⟨hkl, wk_sub ⟨rfl, rfl, ?_, ?_, rfl, trivial⟩⟩
      · show some (AV.sl _ _ _ _) = some (AV.sl _ _ _ _)
        rw [hS]
      · show some (AV.mrow _ _ _) = some (AV.mrow _ _ _)
        rw [hS]
  · have hkl : k = c.length := by
      have : ¬ k < c.length := by simpa using hlt
      omega
    subst hkl
    refine aE ?_
    show AWp _ _ _ _ _ _ _
    refine aS (aR ?_)
    (refine nx (aM (gN rfl) rfl rfl rfl rfl rfl) rfl ?_)
    (refine nx (aA (gN rfl) rfl rfl rfl rfl rfl) rfl ?_)
    show AWp _ _ _ _ _ _ _
    exact aT ⟨.inr rfl, _, Wk.refl _, rfl, rfl, trivial⟩
-- 
theorem rSide_abs (W : World) (l : Lt) (n : Nat) : AFun Tryz.prog W 30 [l.cw, .i (n : Int)] (.val (sdT l n).cw) := by
  refine afun_of (rs := [(sdT l n).cw]) Tryz.func30 Tryz.ntmps30 rfl rfl rfl rfl ?_
  intro w U hW
  refine aS (aR ?_)
  (refine nx (a_box (gN rfl) rfl rfl rfl rfl rfl) rfl ?_)
  (refine nx (a_alloc (gN rfl) rfl rfl rfl rfl rfl rfl rfl rfl rfl rfl) rfl ?_)
  show AWp _ _ _ _ _ _ _
  refine aS (aS (aR ?_))
  (refine nx (aM (gN rfl) rfl rfl rfl rfl rfl) rfl ?_)
  (refine nx (a_eql (gN rfl) rfl rfl rfl rfl rfl rfl) rfl ?_)
  show AWp _ _ _ _ _ _ _
  refine aC rfl (fun hc => ?_) (fun hc => ?_)
  · have hc : (n : Int) = 0 := by simpa using hc
    have e : sdT l n = l.a := by unfold sdT; rw [if_pos (by omega)]
    rw [e]
    refine aS (aR ?_)
    (refine nx (aF (gN rfl) rfl rfl rfl rfl rfl rfl rfl rfl rfl) rfl ?_)
    (refine nx (aLb (gN rfl) rfl rfl rfl rfl rfl rfl rfl rfl rfl rfl rfl rfl) rfl ?_)
    (refine nx (aSt (gN rfl) rfl rfl rfl rfl rfl rfl rfl rfl rfl rfl) rfl ?_)
    show AWp _ _ _ _ _ _ _
    exact aT (And.intro (.inr rfl) rfl)
  · have hc : ¬ (n : Int) = 0 := by simpa using hc
    have e : sdT l n = l.b := by unfold sdT; rw [if_neg (by omega)]
    rw [e]
    refine aK ?_
    show AWp _ _ _ _ _ _ _
    refine aS (aR ?_)
    (refine nx (aF (gN rfl) rfl rfl rfl rfl rfl rfl rfl rfl rfl) rfl ?_)
    (refine nx (aLb (gN rfl) rfl rfl rfl rfl rfl rfl rfl rfl rfl rfl rfl rfl) rfl ?_)
    (refine nx (aSt (gN rfl) rfl rfl rfl rfl rfl rfl rfl rfl rfl rfl) rfl ?_)
    show AWp _ _ _ _ _ _ _
    exact aT (And.intro (.inr rfl) rfl)
end Go.Proofs.YteegmcfobgpemaaGreat
namespace Go.Proofs.YteegmcfobgpemaaGreat
open Go.RowKit
set_option linter.unusedVariables false
set_option linter.unusedSimpArgs false
abbrev sv (l : List UInt8) : CV := .sc (.string ⟨l.toArray⟩)
section
variable {P : Program} {w0 : World} {U0 : UX} {nt : Nat} {ops : Array Oper} {o : Oper} {S : Nat → Option AV} {gs : List Nat} {d : Nat}
end
section
variable {P : Program} {w0 : World} {U0 : UX} {nt : Nat} {ops : Array Oper} {o : Oper} {S : Nat → Option AV} {gs : List Nat} {d : Nat}
theorem a_quo (hg : Gd w0 U0 nt ops o gs S) (hd : o.dst = some d) (hn : Nat.blt d nt = true) (h5 : Nat.blt d 100000 = true) {x y : Operand} {t1 t2 : TypeId} {k : IntKind} {i j : Int} {n q p n' q' p'} (ho : o.op = .binOp .quo t1 x y t2) (hx : ev S x = some ⟨0, .sc (.int k i), n, q, p⟩) (hy : ev S y = some ⟨0, .sc (.int k j), n', q', p'⟩) (hr : j ≠ 0) (hw : k.wrap (i.tdiv j) = i.tdiv j) : AOp P w0 U0 nt ops o (gs ++ (rd x ++ rd y)) [] S [(d, .val (.sc (.int k (i.tdiv j))))] :=
  aop_int2 hg hd hn h5 ho hx hy (fun w => by simp [binOp, Op.intDiv, hr, hw, go_sem]) rfl
end
end Go.Proofs.YteegmcfobgpemaaGreat
namespace Go.Proofs.YteegmcfobgpemaaGreat
open Go.RowKit
set_option linter.unusedVariables false
set_option linter.unusedSimpArgs false
set_option maxRecDepth 100000
theorem ten_okF {c : List Lt} (h : ∀ l ∈ c, l.ten) : ∀ l ∈ c, l.fit := fun l hl => ⟨⟨(h l hl).1.1.1, (h l hl).1.1.2, by have := (h l hl).1.2; omega⟩, (h l hl).2.1.1, (h l hl).2.1.2, by have := (h l hl).2.2; omega⟩
theorem offD_in {c : List Lt} {k : Nat} (h : k < c.length) : offD c (k : Int) c.length = offL c k := by
  rw [offD_eq, if_pos (by omega), Int.toNat_natCast]
theorem clC_at {A : List (List Lt)} {k : Nat} {x : List Lt} (h : A[k]? = some x) : (A.map clC)[k]? = some (.lst (x.map Lt.cv)) := by rw [List.getElem?_map, h]; rfl
-- 
theorem sameAll_abs (W : World) (A B : List (List Lt)) (hAl : A.length ≤ 100000) (hAc : ∀ c ∈ A, c.length ≤ 1000000 ∧ ∀ l ∈ c, l.a.ok ∧ l.b.ok) (hBc : ∀ c ∈ B, ∀ l ∈ c, l.a.ok ∧ l.b.ok) (h : stC A = stC B) : AFun Tryz.prog W 11 [.lst (A.map clC), .lst (B.map clC)] (.val (.b true)) := by
  have hlen : A.length = B.length := by
    have := congrArg List.length h
    unfold stC at this
    rw [List.length_map, List.length_map] at this
    exact this
  have hszA := clC_size A
  have hszB := clC_size B
  refine afun_of (rs := [.b true]) Tryz.func11 Tryz.ntmps11 rfl rfl rfl rfl ?_
  intro w U hW
  refine aS (aR ?_)
  (refine nx (aA (gN rfl) rfl rfl rfl rfl rfl) rfl ?_)
  show AWp _ _ _ _ _ _ _
  refine aS (aS (aR ?_))
  (refine nx (aM (gN rfl) rfl rfl rfl rfl rfl) rfl ?_)
  (refine nx (a_len (gN rfl) rfl rfl rfl rfl rfl rfl rfl) rfl ?_)
  (refine nx (aM (gN rfl) rfl rfl rfl rfl rfl) rfl ?_)
  (refine nx (a_len (gN rfl) rfl rfl rfl rfl rfl rfl rfl) rfl ?_)
  (refine nx (a_neq (gN rfl) rfl rfl rfl rfl rfl rfl) rfl ?_)
  show AWp _ _ _ _ _ _ _
  refine aC rfl (fun hc => ?_) (fun hc => aK ?_)
  · exfalso
    have hc : ¬ ((A.length : Int) = (B.length : Int)) := by simpa using hc
    omega
  show AWp _ _ _ _ _ _ _
  refine aS (aS (aR ?_))
  (refine nx (aA (gN rfl) rfl rfl rfl rfl rfl) rfl ?_)
  show AWp _ _ _ _ _ _ _
  refine aB (awp_count A.length (fun k => [(0, .val (.lst (A.map clC))), (1, .val (.lst (B.map clC))), (5, .val (.i k))]) (wk_sub ⟨rfl, rfl, rfl, trivial⟩) ?_)
  intro k hk
  refine aS (aS (aR ?_))
  (refine nx (aM (gN rfl) rfl rfl rfl rfl rfl) rfl ?_)
  (refine nx (aM (gN rfl) rfl rfl rfl rfl rfl) rfl ?_)
  (refine nx (a_len (gN rfl) rfl rfl rfl rfl rfl rfl rfl) rfl ?_)
  (refine nx (a_lss (gN rfl) rfl rfl rfl rfl rfl rfl) rfl ?_)
  show AWp _ _ _ _ _ _ _
  refine aC rfl (fun hlt => ?_) (fun hlt => ?_)
  · have hkl : k < A.length := by simpa using hlt
    obtain ⟨x, hx⟩ : ∃ x, A[k]? = some x := ⟨A[k], List.getElem?_eq_getElem hkl⟩
    obtain ⟨y, hy⟩ : ∃ y, B[k]? = some y := ⟨B[k]'(by omega), List.getElem?_eq_getElem (by omega)⟩
    have hx' := clC_at hx
    have hy' := clC_at hy
    have hxy : sameC x y = true := by
      rw [sameC_iff]
      have h1 : (stC A)[k]? = some (x.map Lt.strip) := by unfold stC; rw [List.getElem?_map, hx]; rfl
      have h2 : (stC B)[k]? = some (y.map Lt.strip) := by unfold stC; rw [List.getElem?_map, hy]; rfl
      rw [h, h2] at h1
      exact (Option.some.inj h1).symm
    obtain ⟨g1, g2⟩ := hAc x (List.mem_of_getElem? hx)
    have hs := fun w => same11_abs w x y g1 g2 (hBc y (List.mem_of_getElem? hy))
    rw [hxy] at hs
    refine aK ?_
    show AWp _ _ _ _ _ _ _
    refine aS (aB (aS (aD (by kernel_rfl) (by kernel_rfl) ?_)))
    (refine nx (aM (gN rfl) rfl rfl rfl rfl rfl) rfl ?_)
    (refine nx (aM (gN rfl) rfl rfl rfl rfl rfl) rfl ?_)
    (refine nx (a_index (j := k) (gN rfl) rfl rfl rfl rfl rfl rfl rfl rfl rfl (hx') rfl (hszA)) rfl ?_)
    (refine nx (a_load_ad (gN rfl) rfl rfl rfl rfl rfl rfl rfl rfl rfl) rfl ?_)
    (refine nx (aM (gN rfl) rfl rfl rfl rfl rfl) rfl ?_)
    (refine nx (aM (gN rfl) rfl rfl rfl rfl rfl) rfl ?_)
    (refine nx (a_index (j := k) (gN rfl) rfl rfl rfl rfl rfl rfl rfl rfl rfl (hy') rfl (hszB)) rfl ?_)
    (refine nx (a_load_ad (gN rfl) rfl rfl rfl rfl rfl rfl rfl rfl rfl) rfl ?_)
    (refine nx (a_call (gN rfl) rfl rfl rfl rfl rfl (hs w)) rfl ?_)
    (refine nx (a_not (gN rfl) rfl rfl rfl rfl rfl) rfl ?_)
    refine ⟨by kernel_rfl, ?_⟩
    show AWp _ _ _ _ _ _ _
    refine aC rfl (fun h => by cases h) (fun _ => aK ?_)
    show AWp _ _ _ _ _ _ _
    refine aR ?_
    (refine nx (aM (gN rfl) rfl rfl rfl rfl rfl) rfl ?_)
    (refine nx (a_add (gN rfl) rfl rfl rfl rfl rfl rfl (by first | omega | (simp only [List.length_map, List.length_append, List.length_cons, List.length_nil] <;> omega) | (simp <;> omega))) rfl ?_)
    (refine nx (aA (gN rfl) rfl rfl rfl rfl rfl) rfl ?_)
    exact ⟨hkl, wk_sub ⟨rfl, rfl, rfl, trivial⟩⟩
  · have hkl : k = A.length := by
      have : ¬ k < A.length := by simpa using hlt
      omega
    subst hkl
    refine aE ?_
    show AWp _ _ _ _ _ _ _
    refine aS (aR ?_)
    (refine nx (aA (gN rfl) rfl rfl rfl rfl rfl) rfl ?_)
    show AWp _ _ _ _ _ _ _
    exact aT (And.intro (.inr rfl) rfl)
-- 
theorem to15_abs (W : World) (A : List (List Lt)) (hAl : A.length ≤ 100000) (hAc : ∀ c ∈ A, c.length ≤ 1000000 ∧ ∀ l ∈ c, l.a.ok ∧ l.b.ok) : AFun Tryz.prog W 12 [.lst (A.map clC)] (.val (.lst ((stC A).map clC))) := by
  have hszA := clC_size A
  refine afun_of (rs := [.lst ((stC A).map clC)]) Tryz.func12 Tryz.ntmps12 rfl rfl rfl rfl ?_
  intro w U hW
  refine aS (aR ?_)
  (refine nx (aA (gN rfl) rfl rfl rfl rfl rfl) rfl ?_)
  show AWp _ _ _ _ _ _ _
  refine aS (aR ?_)
  (refine nx (aA (gN rfl) rfl rfl rfl rfl rfl) rfl ?_)
  show AWp _ _ _ _ _ _ _
  refine aS (aS (aR ?_))
  (refine nx (aA (gN rfl) rfl rfl rfl rfl rfl) rfl ?_)
  show AWp _ _ _ _ _ _ _
  refine aB (awp_count A.length (fun k => [(0, .val (.lst (A.map clC))), (3, .own (.lst ((stC (A.take k)).map clC)) 200018), (200018, .tok 22 1), (4, .val (.i k))]) ((wk_nil 3 200018 22 1 rfl rfl rfl rfl rfl rfl rfl).trans (wk_sub ⟨rfl, rfl, rfl, rfl, trivial⟩)) ?_)
  intro k hk
  refine aS (aS (aR ?_))
  (refine nx (aM (gN rfl) rfl rfl rfl rfl rfl) rfl ?_)
  (refine nx (aM (gN rfl) rfl rfl rfl rfl rfl) rfl ?_)
  (refine nx (a_len (gN rfl) rfl rfl rfl rfl rfl rfl rfl) rfl ?_)
  (refine nx (a_lss (gN rfl) rfl rfl rfl rfl rfl rfl) rfl ?_)
  show AWp _ _ _ _ _ _ _
  refine aC rfl (fun hlt => ?_) (fun hlt => ?_)
  · have hkl : k < A.length := by simpa using hlt
    obtain ⟨x, hx⟩ : ∃ x, A[k]? = some x := ⟨A[k], List.getElem?_eq_getElem hkl⟩
    have hx' := clC_at hx
    obtain ⟨g1, g2⟩ := hAc x (List.mem_of_getElem? hx)
    have hsk := clC_size (stC (A.take k))
    have hkn2 : (stC (A.take k)).length ≤ 100000 := by unfold stC; rw [List.length_map, List.length_take]; omega
    have hkn : ((stC (A.take k)).map clC).length ≤ 100000 := by rw [List.length_map]; exact hkn2
    have hS : stC (A.take (k + 1)) = stC (A.take k) ++ [x.map Lt.strip] := by
      unfold stC
      rw [List.take_add_one, hx, List.map_append]; rfl
    refine aK ?_
    show AWp _ _ _ _ _ _ _
    refine aS (aB (aR ?_))
    (refine nx (aM (gN rfl) rfl rfl rfl rfl rfl) rfl ?_)
    (refine nx (aM (gN rfl) rfl rfl rfl rfl rfl) rfl ?_)
    (refine nx (aM (gN rfl) rfl rfl rfl rfl rfl) rfl ?_)
    (refine nx (a_index (j := k) (gN rfl) rfl rfl rfl rfl rfl rfl rfl rfl rfl (hx') rfl (hszA)) rfl ?_)
    (refine nx (a_load_ad (gN rfl) rfl rfl rfl rfl rfl rfl rfl rfl rfl) rfl ?_)
    (refine nx (a_call (gN rfl) rfl rfl rfl rfl rfl (to11_abs w x g1 g2)) rfl ?_)
    (refine nx (a_bslice (gN rfl) rfl rfl rfl rfl rfl rfl rfl rfl rfl rfl rfl rfl rfl) rfl ?_)
    (refine nx (a_app (gN rfl) rfl rfl rfl rfl rfl rfl rfl rfl rfl rfl rfl rfl rfl rfl rfl (by first | assumption | exact sZ rfl | exact Tm.size_all _ | exact Bd.size_all _ | exact ints_size _ | exact bys_size _ | exact Lt.size_all _) (by first | assumption | exact sZ rfl | exact Tm.size_all _ | exact Bd.size_all _ | exact ints_size _ | exact bys_size _ | exact Lt.size_all _) (by first | omega | (simp only [List.length_map, List.length_append, List.length_cons, List.length_nil] <;> omega) | (simp <;> omega))) rfl ?_)
    (refine nx (aA (gN rfl) rfl rfl rfl rfl rfl) rfl ?_)
    show AWp _ _ _ _ _ _ _
    refine aR ?_
    (refine nx (aM (gN rfl) rfl rfl rfl rfl rfl) rfl ?_)
    (refine nx (a_add (gN rfl) rfl rfl rfl rfl rfl rfl (by first | omega | (simp only [List.length_map, List.length_append, List.length_cons, List.length_nil] <;> omega) | (simp <;> omega))) rfl ?_)
    (refine nx (aA (gN rfl) rfl rfl rfl rfl rfl) rfl ?_)
    refine ⟨hkl, (wk_sub (s' := [(0, .val (.lst (A.map clC))), (3, .own (.lst ((stC (A.take (k + 1))).map clC)) 300018), (300018, .tok 22 1), (4, .val (.i ((k + 1 : Nat) : Int)))]) ⟨rfl, ?_, rfl, rfl, trivial⟩).trans (wk_ren 300018 200018 rfl rfl rfl rfl)⟩
    show some (AV.own (.lst _) _) = some (AV.own (.lst _) _)
    rw [hS, List.map_append (f := clC)]
    rfl
  · have hkl : k = A.length := by
      have : ¬ k < A.length := by simpa using hlt
      omega
    subst hkl
    rw [List.take_length]
    refine aE ?_
    show AWp _ _ _ _ _ _ _
    refine aS (aR ?_)
    (refine nx (aM (gN rfl) rfl rfl rfl rfl rfl) rfl ?_)
    (refine nx (aA (gN rfl) rfl rfl rfl rfl rfl) rfl ?_)
    show AWp _ _ _ _ _ _ _
    exact aT (And.intro (.inr rfl) rfl)
theorem kb_lead (a b : Tm) : leadB a b = !(decide (kb a b = 0 ∨ kb a b = -1)) := by
  have h := kb_four a b
  unfold K4 at h
  unfold leadB
  rcases h with h | h | h | h <;> rw [h] <;> rfl
theorem rSideI_abs (W : World) (l : Lt) (z : Int) (n : Nat) (h : z = (n : Int)) : AFun Tryz.prog W 30 [l.cw, .i z] (.val (sdT l n).cw) := by
  subst h
  exact rSide_abs W l n

def rput (u : Tm) : Nat → Tm → Int → Tm × Int
  | 0, t, n => (t, n)
  | d + 1, t, n => if n = 0 then (u, -1) else if t.f < 0 then (⟨t.f, []⟩, n - 1) else
    let r := t.l.foldl (fun acc x => if acc.2 ≥ 0 then (acc.1 ++ [(rput u d x acc.2).1], (rput u d x acc.2).2) else (acc.1 ++ [x], acc.2)) (([] : List Tm), n - 1)
    (⟨t.f, r.1⟩, r.2)
def rstep (u : Tm) (d : Nat) (acc : List Tm × Int) (x : Tm) : List Tm × Int := if acc.2 ≥ 0 then (acc.1 ++ [(rput u d x acc.2).1], (rput u d x acc.2).2) else (acc.1 ++ [x], acc.2)
def rfold (u : Tm) (d : Nat) (l : List Tm) (n : Int) : List Tm × Int := l.foldl (rstep u d) ([], n)
theorem rfold_snoc (u : Tm) (d : Nat) (l : List Tm) (x : Tm) (n : Int) : rfold u d (l ++ [x]) n = rstep u d (rfold u d l n) x := by
  unfold rfold; rw [List.foldl_append]; rfl
theorem rput_sym {u : Tm} {d : Nat} {t : Tm} {n : Int} (h0 : n ≠ 0) (hf : ¬ t.f < 0) : rput u (d + 1) t n = (⟨t.f, (rfold u d t.l (n - 1)).1⟩, (rfold u d t.l (n - 1)).2) := by
  rw [rput, if_neg h0, if_neg hf]; rfl
theorem rput_var {u : Tm} {d : Nat} {t : Tm} {n : Int} (h0 : n ≠ 0) (hf : t.f < 0) : rput u (d + 1) t n = (⟨t.f, []⟩, n - 1) := by
  rw [rput, if_neg h0, if_pos hf]
theorem rfold_len (u : Tm) (d : Nat) (n : Int) (l : List Tm) : (rfold u d l n).1.length = l.length := by
  have : ∀ (l : List Tm) (acc : List Tm × Int), (l.foldl (rstep u d) acc).1.length = acc.1.length + l.length := by
    intro l
    induction l with
    | nil => intro acc; rfl
    | cons x l ih =>
      intro acc
      rw [List.foldl_cons, ih]
      unfold rstep
      split <;> simp <;> omega
  have := this l ([], n)
  unfold rfold
  simpa using this

def RSays (u t : Tm) (n : Int) (r : Tm × Int) : Prop :=
  ((t.size : Int) ≤ n → r.2 = n - t.size ∧ r.1.strip = t.strip) ∧ (n < t.size → r.2 = -1 ∧ ∃ p z, t.places[n.toNat]? = some p ∧ putP u p t = some z ∧ r.1.strip = z.strip)
theorem placesL_at : ∀ {l : List Tm} {k j : Nat} {x : Tm} {m : Nat}, l[j]? = some x → m < x.size → ∀ b, (Tm.placesL l b)[((l.take j).map Tm.size).sum + m]? = (x.places[m]?).map (fun p => ((b + j : Nat) : Int) :: p)
  | t :: ts, k, 0, x, m, hx, hm, b => by
    simp at hx; subst hx
    rw [placesL_cons]
    simp only [List.take_zero, List.map_nil, List.sum_nil, Nat.zero_add, Nat.add_zero]
    rw [List.getElem?_append_left (by rw [List.length_map, Tm.places_len]; exact hm), List.getElem?_map]
  | t :: ts, k, j + 1, x, m, hx, hm, b => by
    rw [placesL_cons, List.take_succ_cons, List.map_cons, List.sum_cons]
    rw [List.getElem?_append_right (by rw [List.length_map, Tm.places_len]; omega), List.length_map, Tm.places_len]
    have := placesL_at (l := ts) (k := k) (j := j) (x := x) (m := m) (by simpa using hx) hm (b + 1)
    rw [show t.size + ((ts.take j).map Tm.size).sum + m - t.size = ((ts.take j).map Tm.size).sum + m by omega, this]
    congr 1
    funext p
    congr 2
    omega
theorem rfold_says (u : Tm) (d : Nat) (n : Int) (hn : 0 ≤ n) (l : List Tm) (ih : ∀ x ∈ l, ∀ m : Int, 0 ≤ m → RSays u x m (rput u d x m)) : ∀ k, k ≤ l.length →
    ((((l.take k).map Tm.size).sum : Int) ≤ n → (rfold u d (l.take k) n).2 = n - (((l.take k).map Tm.size).sum : Nat) ∧ (rfold u d (l.take k) n).1.map Tm.strip = (l.take k).map Tm.strip) ∧
    (n < (((l.take k).map Tm.size).sum : Nat) → (rfold u d (l.take k) n).2 = -1 ∧ ∃ j x p z, j < k ∧ l[j]? = some x ∧ (Tm.placesL l 0)[n.toNat]? = some ((j : Int) :: p) ∧ putP u p x = some z ∧ (rfold u d (l.take k) n).1.map Tm.strip = (l.take j).map Tm.strip ++ z.strip :: ((l.take k).drop (j + 1)).map Tm.strip) := by
  intro k
  induction k with
  | zero => intro _; refine ⟨fun _ => ⟨by simp [rfold], rfl⟩, fun h => ?_⟩; simp at h; omega
  | succ k ihk =>
    intro hk
    obtain ⟨h1, h2⟩ := ihk (by omega)
    obtain ⟨x, hx⟩ : ∃ x, l[k]? = some x := ⟨l[k], List.getElem?_eq_getElem (by omega)⟩
    have htk : l.take (k + 1) = l.take k ++ [x] := by rw [List.take_add_one, hx]; rfl
    have hsum : ((l.take (k + 1)).map Tm.size).sum = ((l.take k).map Tm.size).sum + x.size := by rw [htk, List.map_append, List.sum_append_nat]; simp
    obtain ⟨S, hS⟩ : ∃ S, S = ((l.take k).map Tm.size).sum := ⟨_, rfl⟩
    rw [← hS] at h1 h2 hsum
    rw [hsum, htk, rfold_snoc]
    obtain ⟨acc, hacc⟩ : ∃ acc, acc = rfold u d (l.take k) n := ⟨_, rfl⟩
    have hal : acc.1.length = k := by rw [hacc, rfold_len, List.length_take]; omega
    rw [← hacc] at h1 h2 ⊢
    unfold rstep
    by_cases hc : (S : Int) ≤ n
    · obtain ⟨a1, a2⟩ := h1 hc
      rw [if_pos (by rw [a1]; omega)]
      obtain ⟨r1, r2⟩ := ih x (List.mem_of_getElem? hx) acc.2 (by rw [a1]; omega)
      simp only
      refine ⟨fun h => ?_, fun h => ?_⟩
      · obtain ⟨b1, b2⟩ := r1 (by rw [a1]; omega)
        refine ⟨by rw [b1, a1]; omega, ?_⟩
        rw [List.map_append, List.map_append, a2, List.map_cons, List.map_cons, b2]
      · obtain ⟨b1, p, z, b2, b3, b4⟩ := r2 (by rw [a1]; omega)
        refine ⟨b1, k, x, p, z, by omega, hx, ?_, b3, ?_⟩
        · have hm : acc.2.toNat < x.size := by rw [a1]; omega
          have := placesL_at (k := 0) hx hm 0
          rw [← hS, show S + acc.2.toNat = n.toNat by rw [a1]; omega, b2, Option.map_some, Nat.zero_add] at this
          exact this
        · rw [List.map_append, a2, List.map_cons, List.map_nil, b4]
          congr 2
          rw [List.drop_eq_nil_of_le (by rw [List.length_append, List.length_take]; simp; omega)]; rfl
    · obtain ⟨a1, j, y, p, z, b1, b2, b3, b4, b5⟩ := h2 (by omega)
      rw [if_neg (by rw [a1]; omega)]
      simp only
      refine ⟨fun h => by omega, fun h => ⟨a1, j, y, p, z, by omega, b2, b3, b4, ?_⟩⟩
      rw [List.map_append, b5, List.drop_append_of_le_length (by rw [List.length_take]; omega), List.map_append, List.append_assoc, List.cons_append]
theorem toNat_pred {n : Int} (h : 0 < n) : n.toNat = (n - 1).toNat + 1 := by omega
theorem rput_says (u : Tm) : ∀ (d : Nat) (t : Tm) (n : Int), t.size ≤ d → 0 ≤ n → RSays u t n (rput u d t n)
  | 0, t, n, h, _ => by rw [Tm.size_eq] at h; omega
  | d + 1, t, n, h, hn => by
    have hs1 : 0 < t.size := by rw [Tm.size_eq]; omega
    by_cases h0 : n = 0
    · subst h0
      refine ⟨fun h => by omega, fun _ => ?_⟩
      rw [rput, if_pos rfl]
      exact ⟨rfl, [], u.strip, by rw [Tm.places_eq]; rfl, rfl, (Tm.strip_strip u).symm⟩
    by_cases hf : t.f < 0
    · rw [rput_var h0 hf]
      have hs : t.size = 1 := by rw [Tm.size_eq, Tm.ps_of_var hf]; rfl
      refine ⟨fun h => ⟨by rw [hs]; rfl, ?_⟩, fun h => by omega⟩
      rw [Tm.strip_eq t, Tm.ps_of_var hf, Tm.strip_eq, Tm.ps_of_var (t := ⟨t.f, []⟩) hf]
    rw [rput_sym h0 hf]
    have hsz := size_parts hf
    have hps : t.ps = t.l := Tm.ps_of_sym (by omega)
    obtain ⟨k1, k2⟩ := rfold_says u d (n - 1) (by omega) t.l (fun x hx m hm => rput_says u d x m (by
      have h1 := Tm.size_eq t
      rw [hps] at h1
      have := flatMap_len_mem Tm.flat hx
      have h2 : x.size = x.flat.length := rfl
      omega) hm) t.l.length (Nat.le_refl _)
    rw [List.take_length] at k1 k2
    obtain ⟨r, hr⟩ : ∃ r, r = rfold u d t.l (n - 1) := ⟨_, rfl⟩
    rw [← hr] at k1 k2 ⊢
    have hst : ∀ l : List Tm, (Tm.mk t.f l).strip = ⟨t.f, l.map Tm.strip⟩ := fun l => by
      rw [Tm.strip_eq, Tm.ps_of_sym (t := ⟨t.f, l⟩) (by show 0 ≤ t.f; omega)]
    refine ⟨fun h => ?_, fun h => ?_⟩
    · obtain ⟨a1, a2⟩ := k1 (by omega)
      refine ⟨by simp only; rw [a1]; omega, ?_⟩
      simp only
      rw [hst, a2, Tm.strip_eq t, hps]
    · obtain ⟨a1, j, x, p, z, b1, b2, b3, b4, b5⟩ := k2 (by omega)
      refine ⟨a1, (j : Int) :: p, ⟨t.f, (t.l.take j).map Tm.strip ++ z :: (t.l.drop (j + 1)).map Tm.strip⟩, ?_, ?_, ?_⟩
      · rw [Tm.places_eq, hps, toNat_pred (n := n) (by clear hr k1 k2 b1 b2 b3 b4 b5 a1; omega), List.getElem?_cons_succ]
        exact b3
      · rw [putP]
        have hpa : t.pa (j : Int) = some x := by
          unfold Tm.pa
          rw [if_pos (by omega), Int.toNat_natCast, hps, b2]
        rw [hpa, Option.bind_some, b4, Int.toNat_natCast]; rfl
      · simp only
        rw [hst, hst, b5, List.map_append, List.map_cons, map_strip2, map_strip2]
theorem rput_ok (u : Tm) (hu : u.ok) : ∀ (d : Nat) (t : Tm) (n : Int), t.ok → (rput u d t n).1.ok
  | 0, t, n, h => h
  | d + 1, t, n, h => by
    by_cases h0 : n = 0
    · rw [rput, if_pos h0]; exact hu
    by_cases hf : t.f < 0
    · rw [rput_var h0 hf]; exact leaf_ok _
    rw [rput_sym h0 hf]
    obtain ⟨h1, h2⟩ := (Tm.ok_iff _).1 h
    refine (Tm.ok_iff _).2 ⟨by simp only; rw [rfold_len]; exact h1, ?_⟩
    have : ∀ (l : List Tm) (acc : List Tm × Int), (∀ x ∈ l, x.ok) → (∀ x ∈ acc.1, x.ok) → ∀ x ∈ (l.foldl (rstep u d) acc).1, x.ok := by
      intro l
      induction l with
      | nil => intro acc _ h; exact h
      | cons x l ih =>
        intro acc hl ha
        rw [List.foldl_cons]
        refine ih _ (fun y hy => hl y (List.mem_cons_of_mem _ hy)) ?_
        unfold rstep
        split
        · intro y hy
          rcases List.mem_append.1 hy with hy | hy
          · exact ha y hy
          · rw [List.mem_singleton.1 hy]; exact rput_ok u hu d x acc.2 (hl x (by simp))
        · intro y hy
          rcases List.mem_append.1 hy with hy | hy
          · exact ha y hy
          · rw [List.mem_singleton.1 hy]; exact hl x (by simp)
    exact this t.l ([], n - 1) h2 (fun x hx => by cases hx)
theorem rfold_le {u : Tm} {d : Nat} {n : Int} (hn : 0 ≤ n) {l : List Tm} (hl : ∀ x ∈ l, x.size ≤ d) (k : Nat) (hk : k ≤ l.length) : (rfold u d (l.take k) n).2 ≤ n := by
  obtain ⟨h1, h2⟩ := rfold_says u d n hn l (fun x hx m hm => rput_says u d x m (hl x hx) hm) k hk
  by_cases h : ((((l.take k).map Tm.size).sum : Nat) : Int) ≤ n
  · rw [(h1 h).1]; omega
  · rw [(h2 (by omega)).1]; omega
-- 
set_option maxHeartbeats 2000000 in
theorem refPut_abs (W : World) (u : Tm) : ∀ (d : Nat) (t : Tm) (n : Int), t.size ≤ d → t.ok → 0 ≤ n → n ≤ 1000000 → AFun Tryz.prog W 34 [t.cw, .i n, u.cw] (.tup [(rput u d t n).1.cw, .i (rput u d t n).2]) := by
  intro d
  induction d with
  | zero => intro t n h; rw [Tm.size_eq] at h; omega
  | succ d ih =>
  intro t n hd hok hn hn2
  obtain ⟨hl, hok⟩ := (Tm.ok_iff _).1 hok
  have hsz := Tm.size_all t.l
  refine afun_of (rs := [(rput u (d + 1) t n).1.cw, .i (rput u (d + 1) t n).2]) Tryz.func34 Tryz.ntmps34 rfl rfl rfl rfl ?_
  intro w U hW
  refine aS (aR ?_)
  (refine nx (a_box (gN rfl) rfl rfl rfl rfl rfl) rfl ?_)
  (refine nx (a_box (gN rfl) rfl rfl rfl rfl rfl) rfl ?_)
  (refine nx (a_alloc (gN rfl) rfl rfl rfl rfl rfl rfl rfl rfl rfl rfl) rfl ?_)
  (refine nx (aA (gN rfl) rfl rfl rfl rfl rfl) rfl ?_)
  show AWp _ _ _ _ _ _ _
  refine aS (aS (aR ?_))
  (refine nx (aM (gN rfl) rfl rfl rfl rfl rfl) rfl ?_)
  (refine nx (a_eql (gN rfl) rfl rfl rfl rfl rfl rfl) rfl ?_)
  show AWp _ _ _ _ _ _ _
  refine aC rfl (fun hc => ?_) (fun hc => aK ?_)
  · have h0 : n = 0 := by simpa using hc
    rw [show rput u (d + 1) t n = (u, -1) by rw [rput, if_pos h0]]
    refine aS (aR ?_)
    (refine nx (aL (gN rfl) rfl rfl rfl rfl rfl rfl rfl rfl rfl rfl rfl rfl) rfl ?_)
    (refine nx (aSt (gN rfl) rfl rfl rfl rfl rfl rfl rfl rfl rfl rfl) rfl ?_)
    (refine nx (aA (gN rfl) rfl rfl rfl rfl rfl) rfl ?_)
    show AWp _ _ _ _ _ _ _
    exact aT (And.intro (.inr rfl) rfl)
  have h0 : ¬ n = 0 := by simpa using hc
  clear hc
  show AWp _ _ _ _ _ _ _
  refine aS (aR ?_)
  (refine nx (aM (gN rfl) rfl rfl rfl rfl rfl) rfl ?_)
  (refine nx (a_sub (gN rfl) rfl rfl rfl rfl rfl rfl (by first | omega | (simp only [List.length_map, List.length_append, List.length_cons, List.length_nil] <;> omega) | (simp <;> omega))) rfl ?_)
  (refine nx (aA (gN rfl) rfl rfl rfl rfl rfl) rfl ?_)
  show AWp _ _ _ _ _ _ _
  refine aS (aS (aR ?_))
  (refine nx (aF (gN rfl) rfl rfl rfl rfl rfl rfl rfl rfl rfl) rfl ?_)
  (refine nx (aLb (gN rfl) rfl rfl rfl rfl rfl rfl rfl rfl rfl rfl rfl rfl) rfl ?_)
  (refine nx (a_lss (gN rfl) rfl rfl rfl rfl rfl rfl) rfl ?_)
  show AWp _ _ _ _ _ _ _
  refine aC rfl (fun hc => ?_) (fun hc => aK ?_)
  · have hf : t.f < 0 := by simpa using hc
    rw [rput_var h0 hf]
    refine aS (aR ?_)
    (refine nx (aF (gN rfl) rfl rfl rfl rfl rfl rfl rfl rfl rfl) rfl ?_)
    (refine nx (aLb (gN rfl) rfl rfl rfl rfl rfl rfl rfl rfl rfl rfl rfl rfl) rfl ?_)
    (refine nx (a_build (gN rfl) rfl rfl rfl rfl rfl rfl rfl rfl rfl rfl rfl) rfl ?_)
    (refine nx (aM (gN rfl) rfl rfl rfl rfl rfl) rfl ?_)
    (refine nx (aSt (gN rfl) rfl rfl rfl rfl rfl rfl rfl rfl rfl rfl) rfl ?_)
    (refine nx (aA (gN rfl) rfl rfl rfl rfl rfl) rfl ?_)
    show AWp _ _ _ _ _ _ _
    exact aT (And.intro (.inr rfl) rfl)
  have hf : ¬ t.f < 0 := by simpa using hc
  clear hc
  rw [rput_sym h0 hf]
  have hparts : ∀ x ∈ t.l, x.size ≤ d := fun x hx => by
    have h1 := Tm.size_eq t
    rw [Tm.ps_of_sym (by omega)] at h1
    have := flatMap_len_mem Tm.flat hx
    have h2 : x.size = x.flat.length := rfl
    omega
  obtain ⟨m, hm⟩ : ∃ m, m = n - 1 := ⟨_, rfl⟩
  have hm0 : 0 ≤ m ∧ m ≤ 1000000 := by omega
  show AWp _ _ _ _ _ _ _
  refine aS (aR ?_)
  (refine nx (aF (gN rfl) rfl rfl rfl rfl rfl rfl rfl rfl rfl) rfl ?_)
  (refine nx (aLb (gN rfl) rfl rfl rfl rfl rfl rfl rfl rfl rfl rfl rfl rfl) rfl ?_)
  (refine nx (a_build (gN rfl) rfl rfl rfl rfl rfl rfl rfl rfl rfl rfl rfl) rfl ?_)
  (refine nx (a_alloc (gN rfl) rfl rfl rfl rfl rfl rfl rfl rfl rfl rfl) rfl ?_)
  (refine nx (aSt (gN rfl) rfl rfl rfl rfl rfl rfl rfl rfl rfl rfl) rfl ?_)
  show AWp _ _ _ _ _ _ _
  refine aS (aS (aR ?_))
  (refine nx (aA (gN rfl) rfl rfl rfl rfl rfl) rfl ?_)
  show AWp _ _ _ _ _ _ _
  rw [← hm]
  refine aB (awp_count t.l.length (fun k => [(1, .val (.i (rfold u d (t.l.take k) m).2)), (3, .bp 3 0 []), (100003, .bx t.cw), (5, .bp 5 0 []), (100005, .bx u.cw), (6, .bp 6 0 []), (100006, ⟨5, .row [.i 0, .lst []], 1, 0, [1]⟩), (8, .bp 8 0 []), (100008, ⟨5, .row [.i t.f, .lst ((rfold u d (t.l.take k) m).1.map Tm.cv)], 200055, 0, [1]⟩), (200055, .tok 50 2), (9, .val (.i k))])
    ((wk_nil 100008 200055 50 2 rfl rfl rfl rfl rfl rfl rfl).trans (wk_sub ⟨(by rw [hm]; rfl), rfl, rfl, rfl, rfl, rfl, rfl, rfl, rfl, rfl, rfl, trivial⟩)) ?_)
  intro k hk
  refine aS (aS (aR ?_))
  (refine nx (aM (gN rfl) rfl rfl rfl rfl rfl) rfl ?_)
  (refine nx (aF (gN rfl) rfl rfl rfl rfl rfl rfl rfl rfl rfl) rfl ?_)
  (refine nx (aLb (gN rfl) rfl rfl rfl rfl rfl rfl rfl rfl rfl rfl rfl rfl) rfl ?_)
  (refine nx (a_len (gN rfl) rfl rfl rfl rfl rfl rfl rfl) rfl ?_)
  (refine nx (a_lss (gN rfl) rfl rfl rfl rfl rfl rfl) rfl ?_)
  show AWp _ _ _ _ _ _ _
  refine aC rfl (fun hc => aK ?_) (fun hc => aE ?_)
  · have hkl : k < t.l.length := by
      simp only [List.length_map, decide_eq_true_eq] at hc
      omega
    clear hc
    obtain ⟨x, hx⟩ : ∃ x, t.l[k]? = some x := ⟨t.l[k], List.getElem?_eq_getElem hkl⟩
    have hx' := Tm.map_at hx
    have hxm := List.mem_of_getElem? hx
    have hle := rfold_le (u := u) hm0.1 hparts k (by omega)
    have hal : (rfold u d (t.l.take k) m).1.length = k := by rw [rfold_len, List.length_take]; omega
    have hnx : rfold u d (t.l.take (k + 1)) m = rstep u d (rfold u d (t.l.take k) m) x := by rw [List.take_add_one, hx, Option.toList_some, rfold_snoc]
    obtain ⟨acc, hacc⟩ : ∃ acc, acc = rfold u d (t.l.take k) m := ⟨_, rfl⟩
    rw [← hacc] at hle hal hnx ⊢
    have hasz := Tm.size_all acc.1
    show AWp _ _ _ _ _ _ _
    refine aS (aB (aS (aR ?_)))
    (refine nx (aF (gN rfl) rfl rfl rfl rfl rfl rfl rfl rfl rfl) rfl ?_)
    (refine nx (aLb (gN rfl) rfl rfl rfl rfl rfl rfl rfl rfl rfl rfl rfl rfl) rfl ?_)
    (refine nx (aM (gN rfl) rfl rfl rfl rfl rfl) rfl ?_)
    (refine nx (a_index (gN rfl) rfl rfl rfl rfl rfl rfl rfl rfl rfl (by assumption) rfl (by first | assumption | exact sZ rfl | exact Tm.size_all _ | exact Bd.size_all _ | exact ints_size _ | exact bys_size _ | exact Lt.size_all _)) rfl ?_)
    (refine nx (a_load_ad (gN rfl) rfl rfl rfl rfl rfl rfl rfl rfl rfl) rfl ?_)
    (refine nx (a_alloc (gN rfl) rfl rfl rfl rfl rfl rfl rfl rfl rfl rfl) rfl ?_)
    (refine nx (aSt (gN rfl) rfl rfl rfl rfl rfl rfl rfl rfl rfl rfl) rfl ?_)
    show AWp _ _ _ _ _ _ _
    refine aS (aS (aR ?_))
    (refine nx (aM (gN rfl) rfl rfl rfl rfl rfl) rfl ?_)
    (refine nx (a_geq (gN rfl) rfl rfl rfl rfl rfl rfl) rfl ?_)
    show AWp _ _ _ _ _ _ _
    refine aC rfl (fun hc => ?_) (fun hc => aK ?_)
    · have hge : acc.2 ≥ 0 := by simpa using hc
      have hP := (ih x acc.2 (hparts x hxm) (hok x hxm) hge (by omega)).up hW
      refine aD (by kernel_rfl) (by kernel_rfl) ?_
      (refine nx (aF (gN rfl) rfl rfl rfl rfl rfl rfl rfl rfl rfl) rfl ?_)
      (refine nx (aLb (gN rfl) rfl rfl rfl rfl rfl rfl rfl rfl rfl rfl rfl rfl) rfl ?_)
      (refine nx (aM (gN rfl) rfl rfl rfl rfl rfl) rfl ?_)
      (refine nx (a_index (gN rfl) rfl rfl rfl rfl rfl rfl rfl rfl rfl (by assumption) rfl (by first | assumption | exact sZ rfl | exact Tm.size_all _ | exact Bd.size_all _ | exact ints_size _ | exact bys_size _ | exact Lt.size_all _)) rfl ?_)
      (refine nx (a_load_ad (gN rfl) rfl rfl rfl rfl rfl rfl rfl rfl rfl) rfl ?_)
      (refine nx (aM (gN rfl) rfl rfl rfl rfl rfl) rfl ?_)
      (refine nx (aL (gN rfl) rfl rfl rfl rfl rfl rfl rfl rfl rfl rfl rfl rfl) rfl ?_)
      (refine nx (a_call (gN rfl) rfl rfl rfl rfl rfl (hP)) rfl ?_)
      (refine nx (aM (gN rfl) rfl rfl rfl rfl rfl) rfl ?_)
      (refine nx (aX (gN rfl) rfl rfl rfl rfl rfl rfl) rfl ?_)
      (refine nx (aX (gN rfl) rfl rfl rfl rfl rfl rfl) rfl ?_)
      (refine nx (aSt (gN rfl) rfl rfl rfl rfl rfl rfl rfl rfl rfl rfl) rfl ?_)
      (refine nx (aA (gN rfl) rfl rfl rfl rfl rfl) rfl ?_)
      refine ⟨by kernel_rfl, ?_⟩
      show AWp _ _ _ _ _ _ _
      refine aR ?_
      (refine nx (aF (gN rfl) rfl rfl rfl rfl rfl rfl rfl rfl rfl) rfl ?_)
      (refine nx (a_load_tok (gN rfl) rfl rfl rfl rfl rfl rfl rfl rfl rfl rfl rfl rfl rfl) rfl ?_)
      (refine nx (aL (gN rfl) rfl rfl rfl rfl rfl rfl rfl rfl rfl rfl rfl rfl) rfl ?_)
      (refine nx (a_bslice (gN rfl) rfl rfl rfl rfl rfl rfl rfl rfl rfl rfl rfl rfl rfl) rfl ?_)
      (refine nx (a_app (gN rfl) rfl rfl rfl rfl rfl rfl rfl rfl rfl rfl rfl rfl rfl rfl rfl (by first | assumption | exact sZ rfl | exact Tm.size_all _ | exact Bd.size_all _ | exact ints_size _ | exact bys_size _ | exact Lt.size_all _) (by first | assumption | exact sZ rfl | exact Tm.size_all _ | exact Bd.size_all _ | exact ints_size _ | exact bys_size _ | exact Lt.size_all _) (by first | omega | (simp only [List.length_map, List.length_append, List.length_cons, List.length_nil] <;> omega) | (simp <;> omega))) rfl ?_)
      (refine nx (aF (gN rfl) rfl rfl rfl rfl rfl rfl rfl rfl rfl) rfl ?_)
      (refine nx (a_store (gN rfl) rfl rfl rfl rfl rfl rfl rfl rfl rfl rfl) rfl ?_)
      show AWp _ _ _ _ _ _ _
      refine aR ?_
      (refine nx (aM (gN rfl) rfl rfl rfl rfl rfl) rfl ?_)
      (refine nx (a_add (gN rfl) rfl rfl rfl rfl rfl rfl (by first | omega | (simp only [List.length_map, List.length_append, List.length_cons, List.length_nil] <;> omega) | (simp <;> omega))) rfl ?_)
      (refine nx (aA (gN rfl) rfl rfl rfl rfl rfl) rfl ?_)
      refine ⟨hkl, Wk.trans (wk_sub (s' := [(1, .val (.i (rfold u d (t.l.take (k + 1)) m).2)), (3, .bp 3 0 []), (100003, .bx t.cw), (5, .bp 5 0 []), (100005, .bx u.cw), (6, .bp 6 0 []), (100006, ⟨5, .row [.i 0, .lst []], 1, 0, [1]⟩), (8, .bp 8 0 []), (100008, ⟨5, .row [.i t.f, .lst ((rfold u d (t.l.take (k + 1)) m).1.map Tm.cv)], 300055, 0, [1]⟩), (300055, .tok 50 2), (9, .val (.i ((k + 1 : Nat) : Int)))]) ⟨?_, rfl, rfl, rfl, rfl, rfl, rfl, rfl, ?_, rfl, rfl, trivial⟩) (wk_ren 300055 200055 rfl rfl rfl rfl)⟩
      · rw [hnx]; unfold rstep; rw [if_pos hge]; rfl
      · rw [hnx]; unfold rstep; rw [if_pos hge]
        simp only [List.map_append, List.map_cons, List.map_nil, Tm.cv_eq]
        rfl
    · have hge : ¬ acc.2 ≥ 0 := by simpa using hc
      show AWp _ _ _ _ _ _ _
      refine aR ?_
      (refine nx (aF (gN rfl) rfl rfl rfl rfl rfl rfl rfl rfl rfl) rfl ?_)
      (refine nx (a_load_tok (gN rfl) rfl rfl rfl rfl rfl rfl rfl rfl rfl rfl rfl rfl rfl) rfl ?_)
      (refine nx (aL (gN rfl) rfl rfl rfl rfl rfl rfl rfl rfl rfl rfl rfl rfl) rfl ?_)
      (refine nx (a_bslice (gN rfl) rfl rfl rfl rfl rfl rfl rfl rfl rfl rfl rfl rfl rfl) rfl ?_)
      (refine nx (a_app (gN rfl) rfl rfl rfl rfl rfl rfl rfl rfl rfl rfl rfl rfl rfl rfl rfl (by first | assumption | exact sZ rfl | exact Tm.size_all _ | exact Bd.size_all _ | exact ints_size _ | exact bys_size _ | exact Lt.size_all _) (by first | assumption | exact sZ rfl | exact Tm.size_all _ | exact Bd.size_all _ | exact ints_size _ | exact bys_size _ | exact Lt.size_all _) (by first | omega | (simp only [List.length_map, List.length_append, List.length_cons, List.length_nil] <;> omega) | (simp <;> omega))) rfl ?_)
      (refine nx (aF (gN rfl) rfl rfl rfl rfl rfl rfl rfl rfl rfl) rfl ?_)
      (refine nx (a_store (gN rfl) rfl rfl rfl rfl rfl rfl rfl rfl rfl rfl) rfl ?_)
      show AWp _ _ _ _ _ _ _
      refine aR ?_
      (refine nx (aM (gN rfl) rfl rfl rfl rfl rfl) rfl ?_)
      (refine nx (a_add (gN rfl) rfl rfl rfl rfl rfl rfl (by first | omega | (simp only [List.length_map, List.length_append, List.length_cons, List.length_nil] <;> omega) | (simp <;> omega))) rfl ?_)
      (refine nx (aA (gN rfl) rfl rfl rfl rfl rfl) rfl ?_)
      refine ⟨hkl, Wk.trans (wk_sub (s' := [(1, .val (.i (rfold u d (t.l.take (k + 1)) m).2)), (3, .bp 3 0 []), (100003, .bx t.cw), (5, .bp 5 0 []), (100005, .bx u.cw), (6, .bp 6 0 []), (100006, ⟨5, .row [.i 0, .lst []], 1, 0, [1]⟩), (8, .bp 8 0 []), (100008, ⟨5, .row [.i t.f, .lst ((rfold u d (t.l.take (k + 1)) m).1.map Tm.cv)], 300055, 0, [1]⟩), (300055, .tok 50 2), (9, .val (.i ((k + 1 : Nat) : Int)))]) ⟨?_, rfl, rfl, rfl, rfl, rfl, rfl, rfl, ?_, rfl, rfl, trivial⟩) (wk_ren 300055 200055 rfl rfl rfl rfl)⟩
      · rw [hnx]; unfold rstep; rw [if_neg hge]; rfl
      · rw [hnx]; unfold rstep; rw [if_neg hge]
        simp only [List.map_append, List.map_cons, List.map_nil, Tm.cv_eq]
        rfl
  · have hkl : k = t.l.length := by
      simp only [List.length_map, decide_eq_false_iff_not] at hc
      omega
    subst hkl
    rw [List.take_length]
    show AWp _ _ _ _ _ _ _
    refine aS (aR ?_)
    (refine nx (aL (gN rfl) rfl rfl rfl rfl rfl rfl rfl rfl rfl rfl rfl rfl) rfl ?_)
    (refine nx (aM (gN rfl) rfl rfl rfl rfl rfl) rfl ?_)
    (refine nx (aSt (gN rfl) rfl rfl rfl rfl rfl rfl rfl rfl rfl rfl) rfl ?_)
    (refine nx (aA (gN rfl) rfl rfl rfl rfl rfl) rfl ?_)
    show AWp _ _ _ _ _ _ _
    exact aT (And.intro (.inr rfl) rfl)
end Go.Proofs.YteegmcfobgpemaaGreat
namespace Go.Proofs.YteegmcfobgpemaaGreat
open Go.RowKit Go.MapKept
set_option linter.unusedVariables false
set_option linter.unusedSimpArgs false
structure On (w0 : World) (U0 : UX) (w : World) (U : UX) : Prop where
  below : BelowX U0.x w0 w
  x : ∀ b, U.x b → U0.x b ∨ w0.heap.size ≤ b
  m : ∀ b o, b < w0.heap.size → U0.m b o → ¬ U0.x b → U.m b o
  f : ∀ v, U0.f 450001 = some v → U.f 450001 = some v
theorem On.refl (w : World) (U : UX) : On w U w U := ⟨BelowX.refl _ _, fun b h => .inl h, fun b o _ h _ => h, fun v h => h⟩
theorem On.trans {w0 w1 w2 : World} {U0 U1 U2 : UX} (h : On w0 U0 w1 U1) (k : On w1 U1 w2 U2) : On w0 U0 w2 U2 := by
  have hs := h.below.size
  have hno : ∀ b, b < w0.heap.size → ¬ U0.x b → ¬ U1.x b := fun b hb hx h1 => by
    rcases h.x b h1 with h2 | h2
    · exact hx h2
    · omega
  refine ⟨⟨k.below.os.trans h.below.os, k.below.tape.trans h.below.tape, k.below.output.trans h.below.output, Nat.le_trans hs k.below.size, fun b hb hx => (k.below.block b (by omega) (hno b hb hx)).trans (h.below.block b hb hx)⟩, fun b hb => ?_, fun b o hb hm hx => k.m b o (by omega) (h.m b o hb hm hx) (hno b hb hx), fun v hv => k.f v (h.f v hv)⟩
  rcases k.x b hb with h2 | h2
  · exact h.x b h2
  · exact .inr (by omega)

section
variable {P : Program} {w0 : World} {U0 : UX} {nt : Nat} {s : AS} {a : Act} {w : World} {D : Nat → Nat → Prop} {hv : Nat → Value}

theorem SimG.on (h : SimG w0 U0 nt s a w D hv) {pre : AS} (hp : Sub s pre) (hl : pre.all lendB = true) {V : UX} (v3 : ∀ b, V.x b ↔ ∃ k av, look pre k = some av ∧ oKey k ∧ hb (hv k) = some b) (v4 : ∀ k, hasN (kO pre) k = true → 400000 ≤ k → k < 500000 → V.f k = some (hv k)) (v5 : ∀ b o, V.m b o ↔ Us w0 U0 D b o) (hk : hasN (kO pre) 450001 = true) : On w0 U0 w V := by
  refine ⟨h.below, fun b hb => ?_, fun b o hb hm hx => (v5 b o).2 (.inl ⟨hb, hm, hx⟩), fun v hf => ?_⟩
  · obtain ⟨k, av, h1, h2, h3⟩ := (v3 b).1 hb
    have h4 := all_look hl h1
    unfold oKey at h2
    unfold lendB at h4
    have h5 : Nat.ble 500000 k = false := by
      cases e : Nat.ble 500000 k with
      | false => rfl
      | true => have := Nat.le_of_ble_eq_true e; omega
    simp only [h5, Bool.and_eq_true, Bool.or_eq_true, Bool.not_eq_true'] at h4
    obtain ⟨⟨⟨g1, g2⟩, g3⟩, g4⟩ := h4
    obtain ⟨f1, _, _⟩ := h.blk k av b (hp _ _ h1) h2 (fun e => by rw [e] at g3; cases g3) h3
    rcases f1 with f1 | f1
    · exact .inr f1
    · exact .inl f1.2
  · rw [v4 450001 hk (by omega) (by omega), h.fix 450001 v hf]

def AFunY (P : Program) (Wb : World) (Ub : UX) (f : FuncId) (pre : AS) (args : List AV) (r : AV) (post : AS) : Prop :=
  EntF P f ∧ ∀ (U : UX) (w : World) (hv : Nat → Value) (a0 : Act) (vs : List Value), On Wb Ub w U → (∀ k v, U.f k = some v → hasN (kO pre) k = true) → SimG w U 0 pre a0 w (fun _ _ => False) hv → AVReps (Us w U (fun _ _ => False)) w hv (LiveN pre) args vs →
    Calls P f vs.toArray w fun e w' => ∃ v D' hv' a', e = .returned v ∧ SimG w U 0 post a' w' D' hv' ∧ AVRep (Us w U D') w' hv' (LiveN post) r v
def YldC (P : Program) (Wb : World) (Ub : UX) (l nm : Nat) (pre : AS) (args : Value → List AV) (post : AS) : Prop :=
  ∀ (U : UX) (w : World) (hv : Nat → Value) (a0 : Act) (vs : List Value), On Wb Ub w U → (∀ k v, U.f k = some v → hasN (kO pre) k = true) → SimG w U 0 pre a0 w (fun _ _ => False) hv → AVReps (Us w U (fun _ _ => False)) w hv (LiveN pre) (args (hv nm)) vs →
    YieldAt Fence.wide 1 P l vs.toArray w fun e w' => e = .returned (.bool true) ∧ ∃ D' hv' a', SimG w U 0 post a' w' D' hv'
abbrev yldV (l : Nat) : CV := .sc (.func (.yield l) #[] #[])

def StpY (P : Program) (w0 : World) (U0 : UX) (nt : Nat) (ops : Array Oper) (o : Oper) (s e : AS) : Prop :=
  ∀ (M : Md) a w, Sim w0 U0 nt s a w → ∀ (Q : Exit → Act → World → Prop) (K : Act → World → Prop), (∀ a' w', Sim w0 U0 nt (e ++ s) a' w' → K (wdA a' M.ds) w') →
    if Region.wanted o (yielded ops (wdA a M.ds).tmps) = true then o.wpIn (wideR M.r) 1 P (wdA a M.ds) w K Q else (∀ f, o.about P w (wdA a M.ds).eval = some f → (wideR M.r).fn f) ∧ K ((wdA a M.ds).put o.dst undef) w
def AOpY (P : Program) (w0 : World) (U0 : UX) (nt : Nat) (ops : Array Oper) (o : Oper) (R : List Nat) (N : List (Nat × List Nat)) (S : Nat → Option AV) (e : AS) : Prop :=
  ∀ s, (∀ k ∈ R, look s k = S k) → (∀ q ∈ N, NoRefE s q) → StpY P w0 U0 nt ops o s e
def RunY (P : Program) (w0 : World) (U0 : UX) (nt : Nat) (ops : Array Oper) : List Oper → AS → (AS → Prop) → Prop
  | [], s, K => K s
  | o :: os, s, K => ∃ (R : List Nat) (N : List (Nat × List Nat)) (e : AS), AOpY P w0 U0 nt ops o R N (look s) e ∧ noRefB s N = true ∧ RunY P w0 U0 nt ops os (e ++ s) K
theorem AOp.y {ops : Array Oper} {o : Oper} {R : List Nat} {N : List (Nat × List Nat)} {S : Nat → Option AV} {e : AS} (h : AOp P w0 U0 nt ops o R N S e) : AOpY P w0 U0 nt ops o R N S e := fun s h1 h2 M a w hs Q K hK => stp_in (h s h1 h2) hs hK
theorem nxY {ops : Array Oper} {o : Oper} {os : List Oper} {s e : AS} {K : AS → Prop} {R : List Nat} {N : List (Nat × List Nat)} (h1 : AOpY P w0 U0 nt ops o R N (look s) e) (h2 : noRefB s N = true) (h3 : RunY P w0 U0 nt ops os (e ++ s) K) : RunY P w0 U0 nt ops (o :: os) s K := ⟨R, N, e, h1, h2, h3⟩
theorem runY_list {ops : Array Oper} {M : Md} {Q : Exit → Act → World → Prop} : ∀ {l : List Oper} {s : AS} {K : AS → Prop}, RunY P w0 U0 nt ops l s K → (∀ s' a w, K s' → Sim w0 U0 nt s' a w → Q .normal (wdA a M.ds) w) → ∀ a w, Sim w0 U0 nt s a w → wpListIn (wideR M.r) 1 P ops Q l (wdA a M.ds) w
  | [], s, K, h, hK, a, w, hs => hK s a w h hs
  | o :: os, s, K, ⟨R, N, e, h1, h2, h3⟩, hK, a, w, hs => by
    unfold wpListIn
    exact h1 s (fun _ _ => rfl) (noRefB_spec h2) M a w hs _ _ (fun a' w' hs' => runY_list h3 hK a' w' hs')
theorem awp_regionY {id : Nat} {l : List Oper} {Q : Exit → AS → Prop} {s : AS} (h : RunY P w0 U0 nt l.toArray l s fun s' => Q .normal s') : AWp P w0 U0 nt (.region id l.toArray false) Q s :=
  fun M a w hs => wpIn_region_lit (runY_list (M := M) h (fun s' a w h1 h2 => ⟨a, rfl, s', h1, h2⟩) a w hs)

theorem roundIn_any {m m' : Nat} {ro : Option Nat} {l : Nat} {f : FuncId} {tmps : Array Value} {assign body : Code} {R : Ending → World → Prop} (h : RoundIn Fence.wide m P l f tmps assign body w R) : RoundIn (wideR ro) m' P l f tmps assign body w R :=
  ⟨trivial, fun c cs _ => by
    obtain ⟨e, w', h1, h2⟩ := h.2 c cs (room_wide _)
    refine ⟨e, w', h1, ?_⟩
    cases e <;> exact h2⟩
variable {ops : Array Oper} {o : Oper} {S : Nat → Option AV} {gs : List Nat} {d : Nat}
theorem a_yield (dh : Nat) {Wb : World} {Ub : UX} {l nm : Nat} {x : Operand} {xs : Array Operand} {ts : Array TypeId} {ar : Value → List AV} {pre post : AS} {u : Value} {n q p} (hY : YldC P Wb Ub l nm pre ar post) (hon : On Wb Ub w0 U0) (hg : Gd w0 U0 nt ops o gs S) (hd : o.dst = some d) (hn : Nat.blt d nt = true) (h5 : Nat.blt d 100000 = true)
    (ho : o.op = .call { callee := .value x, args := xs, argTypes := ts }) (hf : ev S x = some ⟨0, yldV l, n, q, p⟩) (hx : evsA S xs.toList = some (ar u)) (hh : (S dh = some (.hdl u nm) ∧ Nat.blt dh 100000 = true) ∨ ∀ v v', ar v = ar v') (hp : SubS S pre) (hl : pre.all lendB = true) (hq : post.all (leaveB (kO post)) = true) (hks : (kO pre).all (hasN (kO post)) = true) (hnb : ∀ k v, U0.f k = some v → hasN (kO post) k = true → hasN (kO pre) k = true) (hbk : hasN (kO pre) 450001 = true) :
    AOpY P w0 U0 nt ops o (gs ++ (rd x ++ (rdl xs.toList ++ (kO pre ++ [dh])))) (newN (kO pre) (kO post) (kO post)) S ((d, .val (.b true)) :: post) := by
  intro s hs hN M a w ⟨D, hv, h⟩ Q K hK
  show if Region.wanted o (yielded ops a.tmps) = true then _ else _
  rw [if_pos (hg s (fun k hk => hs k (List.mem_append_left _ hk)) a w D hv h)]
  have hfv := ev_sc h (fun k hk => hs k (List.mem_append_right _ (List.mem_append_left _ hk))) hf
  have hargs := evsA_rep h (fun k hk => hs k (List.mem_append_right _ (List.mem_append_right _ (List.mem_append_left _ hk)))) hx
  have hsub : Sub s pre := fun k av h1 => (hs k (List.mem_append_right _ (List.mem_append_right _ (List.mem_append_right _ (List.mem_append_left _ (mem_keys h1)))))).trans (hp.look h1)
  have hu : ar (hv nm) = ar u := by
    rcases hh with ⟨h1, h2⟩ | h1
    · obtain ⟨_, _, _, h3⟩ : ∃ v, a.tmps[dh]? = some v ∧ RN nm ∧ hv nm = u := h.slot dh _ ((hs dh (by simp)).trans h1) (bL h2)
      rw [h3]
    · exact h1 _ _
  obtain ⟨V, v1, v2, v3, v4, v5, v6⟩ := h.lend hsub hl
  obtain ⟨fn, tm, assign, body, hy, hR⟩ := hY V w hv ⟨#[], []⟩ _ (hon.trans (h.on hsub hl v3 v4 v5 hbk)) v1 v2 (by rw [hu]; exact hargs.imp fun c _ v hcv => hcv.move v6 (fun _ h3 => h3.imp id fun ⟨e, he⟩ => ⟨e, hsub _ _ he.1, he.2⟩) fun _ => rfl)
  have he : (o.semAt (wideR M.r).round (wdA a M.ds).eval).run P w = .ok (.round l fn tm assign body) w := by
    rw [Oper.semAt_eq _ _ _ (fun c hc => by rw [ho] at hc; cases hc), wd_eval]
    have harr : (xs.toList.map a.eval).toArray = xs.map a.eval := by apply Array.ext'; simp
    rw [harr] at hy
    generalize a.eval = ρ at hfv hy ⊢
    have hfv : ρ x = .func (.yield l) #[] #[] := hfv
    simp [execOp, ho, resolve, invoke, Deferred.ofValue, hfv, hy]
  refine ⟨fun _ _ => trivial, ?_⟩
  rw [he, Oper.uponIn_round]
  refine ⟨(fun hh => by cases hh), (roundIn_any (ro := M.r) hR).mono ?_⟩
  rintro e w' ⟨rfl, D', hv', a', h6⟩
  obtain ⟨D2, hv2, h8, h9⟩ := h.back hsub hl hq hks hN hnb v3 v4 v5 v2 h6
  have h10 := hK _ _ ⟨D2, hv2, h8.put (bL hn) (bL h5) (av := .val (.b true)) (v := .bool true) (avrep_sc rfl)⟩
  rw [hd]
  exact h10
theorem a_callY {f : FuncId} {xs : Array Operand} {ts : Array TypeId} {avs : List AV} {r : AV} {pre post : AS} {Wb : World} {Ub : UX} (hon : On Wb Ub w0 U0) (hg : Gd w0 U0 nt ops o gs S) (hd : o.dst = some d) (hn : Nat.blt d nt = true) (h5 : Nat.blt d 100000 = true)
    (ho : o.op = .call { callee := .value (.func f), args := xs, argTypes := ts }) (hx : evsA S xs.toList = some avs) (hc : AFunY P Wb Ub f pre avs r post) (hp : SubS S pre) (hl : pre.all lendB = true) (hq : post.all (leaveB (kO post)) = true) (hks : (kO pre).all (hasN (kO post)) = true) (hr : refB (kO post) r = true) (hnb : ∀ k v, U0.f k = some v → hasN (kO post) k = true → hasN (kO pre) k = true) (hbk : hasN (kO pre) 450001 = true) :
    AOp P w0 U0 nt ops o (gs ++ (rdl xs.toList ++ kO pre)) (newN (kO pre) (kO post) (kO post)) S ((d, r) :: post) := by
  intro s hs hN a w ⟨D, hv, h⟩ Q K hK
  rw [if_pos (hg s (fun k hk => hs k (List.mem_append_left _ hk)) a w D hv h)]
  have hargs := evsA_rep h (fun k hk => hs k (List.mem_append_right _ (List.mem_append_left _ hk))) hx
  have hsub : Sub s pre := fun k av h1 => (hs k (List.mem_append_right _ (List.mem_append_right _ (mem_keys h1)))).trans (hp.look h1)
  obtain ⟨V, v1, v2, v3, v4, v5, v6⟩ := h.lend hsub hl
  obtain ⟨h1, h2⟩ := hc
  have hcall := h2 V w hv ⟨#[], []⟩ _ (hon.trans (h.on hsub hl v3 v4 v5 hbk)) v1 v2 (hargs.imp fun c _ v hcv => hcv.move v6 (fun _ h3 => h3.imp id fun ⟨e, he⟩ => ⟨e, hsub _ _ he.1, he.2⟩) fun _ => rfl)
  have he : (execOp a.eval o).run P w = .ok (.enter f (xs.toList.map a.eval).toArray) w := by
    have hf : a.eval (.func f) = .func (.func f) #[] #[] := rfl
    have hen := h1 (xs.map a.eval) w
    have harr : (xs.toList.map a.eval).toArray = xs.map a.eval := by apply Array.ext'; simp
    rw [harr]
    generalize a.eval = ρ at hf hen ⊢
    simp [execOp, ho, resolve, invoke, Deferred.ofValue, hf, hen]
  unfold Oper.wp
  rw [he, Oper.upon_enter]
  refine hcall.mono ?_
  rintro e w' ⟨v, D', hv', a', rfl, h6, h7⟩
  rw [hd]
  obtain ⟨D2, hv2, h8, h9⟩ := h.back hsub hl hq hks hN hnb v3 v4 v5 v2 h6
  exact hK _ _ ⟨D2, hv2, h8.put (bL hn) (bL h5) (h9.1 r v hr h7)⟩
end
end Go.Proofs.YteegmcfobgpemaaGreat
