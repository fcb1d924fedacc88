/-
  OrRef OrRef2 OrCom OrLw EqRes EqDoc ClNmX ClTtM ClRefN EqRef AbStr PrQuo
-/
import Derived.Test.YtglmoficcjphaaaGreatMg12
import Derived.Test.YtglmoficcjphaaaGreatMg11
import Derived.Test.YtglmoficcjphaaaGreatMg9
import Derived.Test.YtglmoficcjphaaaGreatMg4
import Derived.Laws.Strings
import Derived.Laws.Strings3
import Derived.Laws.Concat
import Derived.Lib.Strings
import Derived.Laws.BytesArg
namespace Go.Proofs.YtglmoficcjphaaaGreat
open Go.RowKit
set_option linter.unusedVariables false
set_option linter.unusedSimpArgs false
set_option maxRecDepth 100000
-- 
theorem rTms_abs (W : World) (l : Lt) : AFun Tryz.prog W 140 [l.cw] (.val (.lst ((tmsL l).map Tm.cv))) := by
  refine afun_of (rs := [.lst ((tmsL l).map Tm.cv)]) Tryz.func140 Tryz.ntmps140 rfl rfl rfl rfl ?_
  intro w U hW
  refine aS (aR ?_)
  (refine nx (a_box (gN rfl) rfl rfl rfl rfl rfl) rfl ?_)
  (refine nx (aA (gN rfl) rfl rfl rfl rfl rfl) rfl ?_)
  show AWp _ _ _ _ _ _ _
  refine aS (aS (aR ?_))
  (refine nx (aF (gN rfl) rfl rfl rfl rfl rfl rfl rfl rfl rfl) rfl ?_)
  (refine nx (aLb (gN rfl) rfl rfl rfl rfl rfl rfl rfl rfl rfl rfl rfl rfl) rfl ?_)
  show AWp _ _ _ _ _ _ _
  refine aC rfl (fun hc => ?_) (fun hc => ?_)
  · have hc : l.neg = true := hc
    have e : CV.lst ((tmsL l).map Tm.cv) = .lst [l.a.cw, l.a.cw, l.b.cw, l.b.cw] := by unfold tmsL; rw [if_pos hc]; simp only [List.map_cons, List.map_nil, Tm.cv_eq]
    rw [e]
    refine aS (aR ?_)
    (refine nx (aF (gN rfl) rfl rfl rfl rfl rfl rfl rfl rfl rfl) rfl ?_)
    (refine nx (aLb (gN rfl) rfl rfl rfl rfl rfl rfl rfl rfl rfl rfl rfl rfl) rfl ?_)
    (refine nx (aF (gN rfl) rfl rfl rfl rfl rfl rfl rfl rfl rfl) rfl ?_)
    (refine nx (aLb (gN rfl) rfl rfl rfl rfl rfl rfl rfl rfl rfl rfl rfl rfl) rfl ?_)
    (refine nx (aF (gN rfl) rfl rfl rfl rfl rfl rfl rfl rfl rfl) rfl ?_)
    (refine nx (aLb (gN rfl) rfl rfl rfl rfl rfl rfl rfl rfl rfl rfl rfl rfl) rfl ?_)
    (refine nx (aF (gN rfl) rfl rfl rfl rfl rfl rfl rfl rfl rfl) rfl ?_)
    (refine nx (aLb (gN rfl) rfl rfl rfl rfl rfl rfl rfl rfl rfl rfl rfl rfl) rfl ?_)
    (refine nx (a_bslice (gN rfl) rfl rfl rfl rfl rfl rfl rfl rfl rfl rfl rfl rfl rfl) rfl ?_)
    (refine nx (aA (gN rfl) rfl rfl rfl rfl rfl) rfl ?_)
    show AWp _ _ _ _ _ _ _
    exact aT (And.intro (.inr rfl) rfl)
  · have hc : l.neg = false := hc
    have e : CV.lst ((tmsL l).map Tm.cv) = .lst [l.a.cw, l.b.cw] := by unfold tmsL; rw [if_neg (by rw [hc]; decide)]; simp only [List.map_cons, List.map_nil, Tm.cv_eq]
    rw [e]
    refine aK ?_
    show AWp _ _ _ _ _ _ _
    refine aS (aR ?_)
    (refine nx (aF (gN rfl) rfl rfl rfl rfl rfl rfl rfl rfl rfl) rfl ?_)
    (refine nx (aLb (gN rfl) rfl rfl rfl rfl rfl rfl rfl rfl rfl rfl rfl rfl) rfl ?_)
    (refine nx (aF (gN rfl) rfl rfl rfl rfl rfl rfl rfl rfl rfl) rfl ?_)
    (refine nx (aLb (gN rfl) rfl rfl rfl rfl rfl rfl rfl rfl rfl rfl rfl rfl) rfl ?_)
    (refine nx (a_bslice (gN rfl) rfl rfl rfl rfl rfl rfl rfl rfl rfl rfl rfl rfl rfl) rfl ?_)
    (refine nx (aA (gN rfl) rfl rfl rfl rfl rfl) rfl ?_)
    show AWp _ _ _ _ _ _ _
    exact aT (And.intro (.inr rfl) rfl)

def htK (h : Option Nat) (k : Nat) : Bool := match h with | some i => decide (i < k) | none => false
def usK (h : Option Nat) (u : List Bool) (k : Nat) : List Bool := match h with | some i => if i < k then u.set i true else u | none => u
theorem htK_zero (h : Option Nat) : htK h 0 = false := by cases h <;> rfl
theorem usK_zero (h : Option Nat) (u : List Bool) : usK h u 0 = u := by cases h <;> rfl
theorem ht_yes {h : Option Nat} {k : Nat} (e : htK h k = true) (u : List Bool) : htK h (k + 1) = true ∧ usK h u (k + 1) = usK h u k := by
  cases h with
  | none => cases e
  | some i =>
    have hi : i < k := by simpa [htK] using e
    exact ⟨by simp [htK]; omega, by simp only [usK]; rw [if_pos (by omega), if_pos hi]⟩
theorem ht_no {h : Option Nat} {k : Nat} (e : htK h k = false) (u : List Bool) : usK h u k = u := by
  cases h with
  | none => rfl
  | some i =>
    have hi : ¬ i < k := by simpa [htK] using e
    simp only [usK]; rw [if_neg hi]
theorem ht_next {h : Option Nat} {k : Nat} (e : htK h k = false) (hn : h ≠ some k) (u : List Bool) : htK h (k + 1) = false ∧ usK h u (k + 1) = u := by
  cases h with
  | none => exact ⟨rfl, rfl⟩
  | some i =>
    have hi : ¬ i < k := by simpa [htK] using e
    have hik : i ≠ k := fun h => hn (by rw [h])
    exact ⟨by simp [htK]; omega, by simp only [usK]; rw [if_neg (by omega)]⟩
theorem ht_here {k : Nat} (u : List Bool) : htK (some k) (k + 1) = true ∧ usK (some k) u (k + 1) = u.set k true := ⟨by simp [htK], by simp only [usK]; rw [if_pos (by omega)]⟩
theorem hit_at {b : List Tm} {u : List Bool} {t : Tm} {k : Nat} {y : Tm} {f : Bool} (hy : b[k]? = some y) (hu : u[k]? = some f) (e : htK (hitI b u t) k = false) : hitI b u t = some k ↔ (!f && sameT t y) = true := by
  have hz : (b.zip u)[k]? = some (y, f) := by rw [List.getElem?_zip_eq_some]; exact ⟨hy, hu⟩
  obtain ⟨hk, hke⟩ := List.getElem?_eq_some_iff.1 hz
  constructor
  · intro h
    unfold hitI at h
    obtain ⟨h1, h2, _⟩ := List.findIdx?_eq_some_iff_getElem.1 h
    rw [hke] at h2
    exact h2
  · intro h
    cases hh : hitI b u t with
    | none =>
      unfold hitI at hh
      have := List.findIdx?_eq_none_iff.1 hh _ (List.mem_of_getElem? hz)
      rw [h] at this; cases this
    | some i =>
      rw [hh] at e
      have hi : ¬ i < k := by simpa [htK] using e
      unfold hitI at hh
      obtain ⟨h1, h2, h3⟩ := List.findIdx?_eq_some_iff_getElem.1 hh
      by_cases hik : k < i
      · have h4 := h3 k hik
        rw [hke] at h4
        exact absurd h h4
      · have : i = k := by omega
        rw [this]
theorem hit_lt {b : List Tm} {u : List Bool} {t : Tm} {i : Nat} (h : hitI b u t = some i) : i < b.length := by
  unfold hitI at h
  obtain ⟨h1, _⟩ := List.findIdx?_eq_some_iff_getElem.1 h
  rw [List.length_zip] at h1
  omega
theorem bls_at {u : List Bool} {k : Nat} {f : Bool} (h : u[k]? = some f) : (u.map CV.b)[k]? = some (.b f) := by rw [List.getElem?_map, h]; rfl
theorem usK_len (h : Option Nat) (u : List Bool) (k : Nat) : (usK h u k).length = u.length := by
  cases h with
  | none => rfl
  | some i => simp only [usK]; split <;> simp
-- 
theorem rLess14_abs (W : World) (a b : List Tm) (ha : ∀ t ∈ a, t.ok) (hb : ∀ t ∈ b, t.ok) (hal : a.length ≤ 100000) (hbl : b.length ≤ 100000) : AFun Tryz.prog W 154 [.lst (a.map Tm.cv), .lst (b.map Tm.cv)] (.val (.lst ((lessD a b).map Tm.cv))) := by
  have hsa := Tm.size_all a
  have hsb := Tm.size_all b
  refine afun_of (rs := [.lst ((lessD a b).map Tm.cv)]) Tryz.func154 Tryz.ntmps154 rfl rfl rfl rfl ?_
  intro w U hW
  refine aS (aR ?_)
  (refine nx (aA (gN rfl) rfl rfl rfl rfl rfl) rfl ?_)
  show AWp _ _ _ _ _ _ _
  refine aS (aR ?_)
  (refine nx (aM (gN rfl) rfl rfl rfl rfl rfl) rfl ?_)
  (refine nx (a_len (gN rfl) rfl rfl rfl rfl rfl rfl rfl) rfl ?_)
  (refine nx (a_mkM 300005 (k := b.length) (gN rfl) rfl rfl rfl rfl rfl rfl rfl rfl rfl rfl rfl rfl rfl rfl (by first | rfl | omega | (simp only [List.length_set, List.length_map, List.length_append, List.length_cons, List.length_nil] <;> omega) | (simp <;> omega)) (by first | rfl | omega | (simp only [List.length_set, List.length_map, List.length_append, List.length_cons, List.length_nil] <;> omega) | (simp <;> omega)) rfl (by first | rfl | omega | (simp only [List.length_set, List.length_map, List.length_append, List.length_cons, List.length_nil] <;> omega) | (simp <;> omega))) rfl ?_)
  (refine nx (aA (gN rfl) rfl rfl rfl rfl rfl) rfl ?_)
  show AWp _ _ _ _ _ _ _
  refine aS (aR ?_)
  (refine nx (aA (gN rfl) rfl rfl rfl rfl rfl) rfl ?_)
  show AWp _ _ _ _ _ _ _
  refine aS (aS (aR ?_))
  (refine nx (aA (gN rfl) rfl rfl rfl rfl rfl) rfl ?_)
  show AWp _ _ _ _ _ _ _
  let st : Nat → List Tm → List Bool → AS := fun i out u => [(0, .val (.lst (a.map Tm.cv))), (1, .val (.lst (b.map Tm.cv))), (5, .sl 300005 0 b.length 1), (300005, .mrow 4 1 (u.map CV.b)), (6, .own (.lst (out.map Tm.cv)) 200056), (200056, .tok 51 2), (7, .val (.i i))]
  refine aB (awp_loop (fun j s => ∃ i out u, j = a.length - i ∧ i ≤ a.length ∧ u.length = b.length ∧ out ++ lsD (a.drop i) b u = lessD a b ∧ out.length ≤ i ∧ s = st i out u) (s' := st 0 [] (List.replicate b.length false)) ((wk_nil 6 200056 51 2 rfl rfl rfl rfl rfl rfl rfl).trans (wk_sub ⟨rfl, rfl, rfl, ?_, rfl, rfl, rfl, trivial⟩)) ⟨0, [], _, rfl, Nat.zero_le _, by simp, rfl, Nat.le_refl _, rfl⟩ ?_)
  · show some (AV.mrow _ _ _) = some (AV.mrow _ _ _)
    rw [List.map_replicate]
    rfl
  rintro j s ⟨i, out, u, rfl, hi, hul, hout, hol, rfl⟩
  refine aS (aS (aR ?_))
  (refine nx (aM (gN rfl) rfl rfl rfl rfl rfl) rfl ?_)
  (refine nx (aM (gN rfl) rfl rfl rfl rfl rfl) rfl ?_)
  (refine nx (a_len (gN rfl) rfl rfl rfl rfl rfl rfl rfl) rfl ?_)
  (refine nx (a_lss (gN rfl) rfl rfl rfl rfl rfl rfl) rfl ?_)
  show AWp _ _ _ _ _ _ _
  refine aC rfl (fun hlt => ?_) (fun hlt => ?_)
  · have hil : i < a.length := by simpa using hlt
    obtain ⟨t, ht⟩ : ∃ t, a[i]? = some t := ⟨a[i], List.getElem?_eq_getElem hil⟩
    have ht' := Tm.map_at ht
    have hto := ha t (List.mem_of_getElem? ht)
    have hdr : a.drop i = t :: a.drop (i + 1) := drop_atT ht
    obtain ⟨h, hh⟩ : ∃ h, h = hitI b u t := ⟨_, rfl⟩
    have hls1 : h = none → lsD (a.drop i) b u = t :: lsD (a.drop (i + 1)) b u := fun e => by rw [hdr, lsD, ← hh, e]
    have hls2 : ∀ k, h = some k → lsD (a.drop i) b u = lsD (a.drop (i + 1)) b (u.set k true) := fun k e => by rw [hdr, lsD, ← hh, e]
    refine aK ?_
    show AWp _ _ _ _ _ _ _
    refine aS (aB (aS (aR ?_)))
    (refine nx (aA (gN rfl) rfl rfl rfl rfl rfl) rfl ?_)
    show AWp _ _ _ _ _ _ _
    refine aS (aS (aR ?_))
    (refine nx (aA (gN rfl) rfl rfl rfl rfl rfl) rfl ?_)
    show AWp _ _ _ _ _ _ _
    let st2 : Nat → AS := fun k => [(0, .val (.lst (a.map Tm.cv))), (1, .val (.lst (b.map Tm.cv))), (5, .sl 300005 0 b.length 1), (300005, .mrow 4 1 ((usK h u k).map CV.b)), (6, .own (.lst (out.map Tm.cv)) 200056), (200056, .tok 51 2), (7, .val (.i i)), (8, .val (.b (htK h k))), (9, .val (.i k))]
    refine aB (awp_count b.length st2 (wk_sub ⟨rfl, rfl, rfl, by rw [usK_zero]; rfl, rfl, rfl, rfl, by rw [htK_zero]; rfl, rfl, trivial⟩) ?_)
    intro k hk
    have hulk := usK_len h u k
    refine aS (aS (aR ?_))
    (refine nx (aM (gN rfl) rfl rfl rfl rfl rfl) rfl ?_)
    (refine nx (aM (gN rfl) rfl rfl rfl rfl rfl) rfl ?_)
    (refine nx (a_len (gN rfl) rfl rfl rfl rfl rfl rfl rfl) rfl ?_)
    (refine nx (a_lss (gN rfl) rfl rfl rfl rfl rfl rfl) rfl ?_)
    show AWp _ _ _ _ _ _ _
    refine aC rfl (fun hlt2 => ?_) (fun hlt2 => ?_)
    · have hkl : k < b.length := by simpa using hlt2
      obtain ⟨y, hy⟩ : ∃ y, b[k]? = some y := ⟨b[k], List.getElem?_eq_getElem hkl⟩
      have hy' := Tm.map_at hy
      have hyo := hb y (List.mem_of_getElem? hy)
      refine aK ?_
      show AWp _ _ _ _ _ _ _
      refine aS (aB ?_)
      cases hht : htK h k with
      | true =>
        obtain ⟨n1, n2⟩ := ht_yes hht u
        refine AWp.wk (wk_sub (s' := [(0, .val (.lst (a.map Tm.cv))), (1, .val (.lst (b.map Tm.cv))), (5, .sl 300005 0 b.length 1), (300005, .mrow 4 1 ((usK h u k).map CV.b)), (6, .own (.lst (out.map Tm.cv)) 200056), (200056, .tok 51 2), (7, .val (.i i)), (8, .val (.b true)), (9, .val (.i k))]) ⟨rfl, rfl, rfl, rfl, rfl, rfl, rfl, by rw [← hht]; rfl, rfl, trivial⟩) ?_
        refine aS (aD (by kernel_rfl) (by kernel_rfl) ?_)
        (refine nx (aM (gN rfl) rfl rfl rfl rfl rfl) rfl ?_)
        (refine nx (a_not (gN rfl) rfl rfl rfl rfl rfl) rfl ?_)
        (refine nx (aM (gN rfl) rfl rfl rfl rfl rfl) rfl ?_)
        (refine ⟨_, _, _, a_off (go_off rfl rfl rfl rfl (by first | rfl | assumption | (simp; done) | (simp [*]; done))) rfl rfl rfl, rfl, ?_⟩)
        (refine ⟨_, _, _, a_off (go_off rfl rfl rfl rfl (by first | rfl | assumption | (simp; done) | (simp [*]; done))) rfl rfl rfl, rfl, ?_⟩)
        (refine ⟨_, _, _, a_off (go_off rfl rfl rfl rfl (by first | rfl | assumption | (simp; done) | (simp [*]; done))) rfl rfl rfl, rfl, ?_⟩)
        (refine ⟨_, _, _, a_off (go_off rfl rfl rfl rfl (by first | rfl | assumption | (simp; done) | (simp [*]; done))) rfl rfl rfl, rfl, ?_⟩)
        (refine ⟨_, _, _, a_off (go_off rfl rfl rfl rfl (by first | rfl | assumption | (simp; done) | (simp [*]; done))) rfl rfl rfl, rfl, ?_⟩)
        (refine ⟨_, _, _, aPf (gN rfl) rfl rfl rfl rfl rfl ?hb rfl, rfl, ?_⟩; case hb => (first | rfl | assumption | (simp; done)))
        (refine nx (aM (gN rfl) rfl rfl rfl rfl rfl) rfl ?_)
        (refine ⟨_, _, _, a_off (go_off rfl rfl rfl rfl (by first | rfl | assumption | (simp; done) | (simp [*]; done))) rfl rfl rfl, rfl, ?_⟩)
        (refine ⟨_, _, _, a_off (go_off rfl rfl rfl rfl (by first | rfl | assumption | (simp; done) | (simp [*]; done))) rfl rfl rfl, rfl, ?_⟩)
        (refine ⟨_, _, _, a_off (go_off rfl rfl rfl rfl (by first | rfl | assumption | (simp; done) | (simp [*]; done))) rfl rfl rfl, rfl, ?_⟩)
        (refine ⟨_, _, _, a_off (go_off rfl rfl rfl rfl (by first | rfl | assumption | (simp; done) | (simp [*]; done))) rfl rfl rfl, rfl, ?_⟩)
        (refine ⟨_, _, _, a_off (go_off rfl rfl rfl rfl (by first | rfl | assumption | (simp; done) | (simp [*]; done))) rfl rfl rfl, rfl, ?_⟩)
        (refine ⟨_, _, _, a_off (go_off rfl rfl rfl rfl (by first | rfl | assumption | (simp; done) | (simp [*]; done))) rfl rfl rfl, rfl, ?_⟩)
        (refine ⟨_, _, _, a_off (go_off rfl rfl rfl rfl (by first | rfl | assumption | (simp; done) | (simp [*]; done))) rfl rfl rfl, rfl, ?_⟩)
        (refine ⟨_, _, _, a_off (go_off rfl rfl rfl rfl (by first | rfl | assumption | (simp; done) | (simp [*]; done))) rfl rfl rfl, rfl, ?_⟩)
        (refine ⟨_, _, _, a_off (go_off rfl rfl rfl rfl (by first | rfl | assumption | (simp; done) | (simp [*]; done))) rfl rfl rfl, rfl, ?_⟩)
        (refine ⟨_, _, _, aPf (gN rfl) rfl rfl rfl rfl rfl ?hb rfl, rfl, ?_⟩; case hb => (first | rfl | assumption | (simp; done)))
        refine ⟨by kernel_rfl, ?_⟩
        show AWp _ _ _ _ _ _ _
        refine aC rfl (fun h => by cases h) (fun _ => ?_)
        refine aK ?_
        show AWp _ _ _ _ _ _ _
        refine aR ?_
        (refine nx (aM (gN rfl) rfl rfl rfl rfl rfl) rfl ?_)
        (refine nx (a_add (gN rfl) rfl rfl rfl rfl rfl rfl (by first | omega | (simp only [List.length_map, List.length_append, List.length_cons, List.length_nil] <;> omega) | (simp <;> omega))) rfl ?_)
        (refine nx (aA (gN rfl) rfl rfl rfl rfl rfl) rfl ?_)
        refine ⟨hkl, wk_sub ⟨rfl, rfl, rfl, ?_, rfl, rfl, rfl, ?_, rfl, trivial⟩⟩
        · rw [n2]; rfl
        · rw [n1]; rfl
      | false =>
        have hus := ht_no hht u
        obtain ⟨f, hf⟩ : ∃ f, u[k]? = some f := ⟨u[k]'(by omega), List.getElem?_eq_getElem (by omega)⟩
        have hf' := bls_at hf
        have hat := hit_at hy hf (by rw [← hh]; exact hht)
        rw [← hh] at hat
        have hum : (u.map CV.b).length = b.length := by rw [List.length_map]; exact hul
        refine AWp.wk (wk_sub (s' := [(0, .val (.lst (a.map Tm.cv))), (1, .val (.lst (b.map Tm.cv))), (5, .sl 300005 0 b.length 1), (300005, .mrow 4 1 (u.map CV.b)), (6, .own (.lst (out.map Tm.cv)) 200056), (200056, .tok 51 2), (7, .val (.i i)), (8, .val (.b false)), (9, .val (.i k))]) ⟨rfl, rfl, rfl, by show some (AV.mrow _ _ _) = some (AV.mrow _ _ _); rw [hus], rfl, rfl, rfl, by rw [← hht]; rfl, rfl, trivial⟩) ?_
        cases f with
        | true =>
          obtain ⟨n1, n2⟩ := ht_next hht (fun e => by have := hat.1 e; cases this) u
          refine aS (aD (by kernel_rfl) (by kernel_rfl) ?_)
          (refine nx (aM (gN rfl) rfl rfl rfl rfl rfl) rfl ?_)
          (refine nx (a_not (gN rfl) rfl rfl rfl rfl rfl) rfl ?_)
          (refine nx (aM (gN rfl) rfl rfl rfl rfl rfl) rfl ?_)
          (refine nx (aM (gd_on rfl rfl rfl rfl (by first | rfl | assumption | (simp; done))) rfl rfl rfl rfl rfl) rfl ?_)
          (refine nx (aM (gd_on rfl rfl rfl rfl (by first | rfl | assumption | (simp; done))) rfl rfl rfl rfl rfl) rfl ?_)
          (refine nx (aIm (k := k) (gd_on rfl rfl rfl rfl (by first | rfl | assumption | (simp; done))) rfl rfl rfl rfl rfl rfl rfl rfl rfl (by first | rfl | omega | (simp only [List.length_set, List.length_map, List.length_append, List.length_cons, List.length_nil] <;> omega) | (simp <;> omega))) rfl ?_)
          (refine nx (a_loadM (gd_on rfl rfl rfl rfl (by first | rfl | assumption | (simp; done))) rfl rfl rfl rfl rfl rfl rfl rfl (hf') rfl (by first | rfl | omega | (simp only [List.length_set, List.length_map, List.length_append, List.length_cons, List.length_nil] <;> omega) | (simp <;> omega)) rfl rfl) rfl ?_)
          (refine nx (a_not (gd_on rfl rfl rfl rfl (by first | rfl | assumption | (simp; done))) rfl rfl rfl rfl rfl) rfl ?_)
          (refine ⟨_, _, _, aPt (gN rfl) rfl rfl rfl rfl rfl ?hb rfl, rfl, ?_⟩; case hb => (first | rfl | assumption | (simp; done)))
          (refine nx (aM (gN rfl) rfl rfl rfl rfl rfl) rfl ?_)
          (refine ⟨_, _, _, a_off (go_off rfl rfl rfl rfl (by first | rfl | assumption | (simp; done) | (simp [*]; done))) rfl rfl rfl, rfl, ?_⟩)
          (refine ⟨_, _, _, a_off (go_off rfl rfl rfl rfl (by first | rfl | assumption | (simp; done) | (simp [*]; done))) rfl rfl rfl, rfl, ?_⟩)
          (refine ⟨_, _, _, a_off (go_off rfl rfl rfl rfl (by first | rfl | assumption | (simp; done) | (simp [*]; done))) rfl rfl rfl, rfl, ?_⟩)
          (refine ⟨_, _, _, a_off (go_off rfl rfl rfl rfl (by first | rfl | assumption | (simp; done) | (simp [*]; done))) rfl rfl rfl, rfl, ?_⟩)
          (refine ⟨_, _, _, a_off (go_off rfl rfl rfl rfl (by first | rfl | assumption | (simp; done) | (simp [*]; done))) rfl rfl rfl, rfl, ?_⟩)
          (refine ⟨_, _, _, a_off (go_off rfl rfl rfl rfl (by first | rfl | assumption | (simp; done) | (simp [*]; done))) rfl rfl rfl, rfl, ?_⟩)
          (refine ⟨_, _, _, a_off (go_off rfl rfl rfl rfl (by first | rfl | assumption | (simp; done) | (simp [*]; done))) rfl rfl rfl, rfl, ?_⟩)
          (refine ⟨_, _, _, a_off (go_off rfl rfl rfl rfl (by first | rfl | assumption | (simp; done) | (simp [*]; done))) rfl rfl rfl, rfl, ?_⟩)
          (refine ⟨_, _, _, a_off (go_off rfl rfl rfl rfl (by first | rfl | assumption | (simp; done) | (simp [*]; done))) rfl rfl rfl, rfl, ?_⟩)
          (refine ⟨_, _, _, aPf (gN rfl) rfl rfl rfl rfl rfl ?hb rfl, rfl, ?_⟩; case hb => (first | rfl | assumption | (simp; done)))
          refine ⟨by kernel_rfl, ?_⟩
          show AWp _ _ _ _ _ _ _
          refine aC rfl (fun h => by cases h) (fun _ => ?_)
          refine aK ?_
          show AWp _ _ _ _ _ _ _
          refine aR ?_
          (refine nx (aM (gN rfl) rfl rfl rfl rfl rfl) rfl ?_)
          (refine nx (a_add (gN rfl) rfl rfl rfl rfl rfl rfl (by first | omega | (simp only [List.length_map, List.length_append, List.length_cons, List.length_nil] <;> omega) | (simp <;> omega))) rfl ?_)
          (refine nx (aA (gN rfl) rfl rfl rfl rfl rfl) rfl ?_)
          refine ⟨hkl, wk_sub ⟨rfl, rfl, rfl, ?_, rfl, rfl, rfl, ?_, rfl, trivial⟩⟩
          · rw [n2]; rfl
          · rw [n1]; rfl
        | false =>
          refine aS (aD (by kernel_rfl) (by kernel_rfl) ?_)
          (refine nx (aM (gN rfl) rfl rfl rfl rfl rfl) rfl ?_)
          (refine nx (a_not (gN rfl) rfl rfl rfl rfl rfl) rfl ?_)
          (refine nx (aM (gN rfl) rfl rfl rfl rfl rfl) rfl ?_)
          (refine nx (aM (gd_on rfl rfl rfl rfl (by first | rfl | assumption | (simp; done))) rfl rfl rfl rfl rfl) rfl ?_)
          (refine nx (aM (gd_on rfl rfl rfl rfl (by first | rfl | assumption | (simp; done))) rfl rfl rfl rfl rfl) rfl ?_)
          (refine nx (aIm (k := k) (gd_on rfl rfl rfl rfl (by first | rfl | assumption | (simp; done))) rfl rfl rfl rfl rfl rfl rfl rfl rfl (by first | rfl | omega | (simp only [List.length_set, List.length_map, List.length_append, List.length_cons, List.length_nil] <;> omega) | (simp <;> omega))) rfl ?_)
          (refine nx (a_loadM (gd_on rfl rfl rfl rfl (by first | rfl | assumption | (simp; done))) rfl rfl rfl rfl rfl rfl rfl rfl (hf') rfl (by first | rfl | omega | (simp only [List.length_set, List.length_map, List.length_append, List.length_cons, List.length_nil] <;> omega) | (simp <;> omega)) rfl rfl) rfl ?_)
          (refine nx (a_not (gd_on rfl rfl rfl rfl (by first | rfl | assumption | (simp; done))) rfl rfl rfl rfl rfl) rfl ?_)
          (refine ⟨_, _, _, aPt (gN rfl) rfl rfl rfl rfl rfl ?hb rfl, rfl, ?_⟩; case hb => (first | rfl | assumption | (simp; done)))
          (refine nx (aM (gN rfl) rfl rfl rfl rfl rfl) rfl ?_)
          (refine nx (aM (gd_on rfl rfl rfl rfl (by first | rfl | assumption | (simp; done))) rfl rfl rfl rfl rfl) rfl ?_)
          (refine nx (aM (gd_on rfl rfl rfl rfl (by first | rfl | assumption | (simp; done))) rfl rfl rfl rfl rfl) rfl ?_)
          (refine nx (a_index (j := i) (gd_on rfl rfl rfl rfl (by first | rfl | assumption | (simp; done))) rfl rfl rfl rfl rfl rfl rfl rfl rfl (ht') rfl (hsa)) rfl ?_)
          (refine nx (a_load_ad (gd_on rfl rfl rfl rfl (by first | rfl | assumption | (simp; done))) rfl rfl rfl rfl rfl rfl rfl rfl rfl) rfl ?_)
          (refine nx (aM (gd_on rfl rfl rfl rfl (by first | rfl | assumption | (simp; done))) rfl rfl rfl rfl rfl) rfl ?_)
          (refine nx (aM (gd_on rfl rfl rfl rfl (by first | rfl | assumption | (simp; done))) rfl rfl rfl rfl rfl) rfl ?_)
          (refine nx (a_index (j := k) (gd_on rfl rfl rfl rfl (by first | rfl | assumption | (simp; done))) rfl rfl rfl rfl rfl rfl rfl rfl rfl (hy') rfl (hsb)) rfl ?_)
          (refine nx (a_load_ad (gd_on rfl rfl rfl rfl (by first | rfl | assumption | (simp; done))) rfl rfl rfl rfl rfl rfl rfl rfl rfl) rfl ?_)
          (refine nx (a_call (gd_on rfl rfl rfl rfl (by first | rfl | assumption | (simp; done))) rfl rfl rfl rfl rfl (refSame_abs w t y hto hyo)) rfl ?_)
          (refine ⟨_, _, _, aPt (gN rfl) rfl rfl rfl rfl rfl ?hb rfl, rfl, ?_⟩; case hb => (first | rfl | assumption | (simp; done)))
          refine ⟨by kernel_rfl, ?_⟩
          show AWp _ _ _ _ _ _ _
          refine aC rfl (fun hsm => ?_) (fun hsm => ?_)
          · have hsm : sameT t y = true := hsm
            have he : h = some k := hat.2 (by rw [hsm]; rfl)
            obtain ⟨n1, n2⟩ := ht_here (k := k) u
            refine aS (aR ?_)
            (refine nx (aM (gN rfl) rfl rfl rfl rfl rfl) rfl ?_)
            (refine nx (aM (gN rfl) rfl rfl rfl rfl rfl) rfl ?_)
            (refine nx (aIm (k := k) (gN rfl) rfl rfl rfl rfl rfl rfl rfl rfl rfl (by first | rfl | omega | (simp only [List.length_set, List.length_map, List.length_append, List.length_cons, List.length_nil] <;> omega) | (simp <;> omega))) rfl ?_)
            (refine nx (a_storeM (gN rfl) rfl rfl rfl rfl rfl rfl (hf') rfl rfl (by first | rfl | omega | (simp only [List.length_set, List.length_map, List.length_append, List.length_cons, List.length_nil] <;> omega) | (simp <;> omega)) rfl) rfl ?_)
            show AWp _ _ _ _ _ _ _
            refine aR ?_
            (refine nx (aA (gN rfl) rfl rfl rfl rfl rfl) rfl ?_)
            show AWp _ _ _ _ _ _ _
            refine aR ?_
            (refine nx (aM (gN rfl) rfl rfl rfl rfl rfl) rfl ?_)
            (refine nx (a_add (gN rfl) rfl rfl rfl rfl rfl rfl (by first | omega | (simp only [List.length_map, List.length_append, List.length_cons, List.length_nil] <;> omega) | (simp <;> omega))) rfl ?_)
            (refine nx (aA (gN rfl) rfl rfl rfl rfl rfl) rfl ?_)
            refine ⟨hkl, wk_sub ⟨rfl, rfl, rfl, ?_, rfl, rfl, rfl, ?_, rfl, trivial⟩⟩
            · show some (AV.mrow _ _ _) = some (AV.mrow _ _ _)
              rw [he, n2, List.map_set]
              rfl
            · rw [he, n1]; rfl
          · have hsm : sameT t y = false := hsm
            obtain ⟨n1, n2⟩ := ht_next hht (fun e => by have := hat.1 e; rw [hsm] at this; cases this) u
            refine aK ?_
            show AWp _ _ _ _ _ _ _
            refine aR ?_
            (refine nx (aM (gN rfl) rfl rfl rfl rfl rfl) rfl ?_)
            (refine nx (a_add (gN rfl) rfl rfl rfl rfl rfl rfl (by first | omega | (simp only [List.length_map, List.length_append, List.length_cons, List.length_nil] <;> omega) | (simp <;> omega))) rfl ?_)
            (refine nx (aA (gN rfl) rfl rfl rfl rfl rfl) rfl ?_)
            refine ⟨hkl, wk_sub ⟨rfl, rfl, rfl, ?_, rfl, rfl, rfl, ?_, rfl, trivial⟩⟩
            · rw [n2]; rfl
            · rw [n1]; rfl
    · have hkl : k = b.length := by
        have : ¬ k < b.length := by simpa using hlt2
        omega
      subst hkl
      refine aE ?_
      show AWp _ _ _ _ _ _ _
      refine aS (aR ?_)
      (refine nx (aM (gN rfl) rfl rfl rfl rfl rfl) rfl ?_)
      (refine nx (a_not (gN rfl) rfl rfl rfl rfl rfl) rfl ?_)
      show AWp _ _ _ _ _ _ _
      have hol2 : (out.map Tm.cv).length ≤ i := by rw [List.length_map]; exact hol
      have hso := Tm.size_all out
      refine aC rfl (fun hn => ?_) (fun hn => ?_)
      · have hn : (!htK h b.length) = true := hn
        have hnone : h = none := by
          cases hc : h with
          | none => rfl
          | some q =>
            rw [hc] at hn
            have := hit_lt (hh.symm.trans hc)
            simp [htK] at hn
            omega
        have hls := hls1 hnone
        have hus : usK h u b.length = u := by rw [hnone]; rfl
        refine aR ?_
        (refine nx (aM (gN rfl) rfl rfl rfl rfl rfl) rfl ?_)
        (refine nx (aM (gN rfl) rfl rfl rfl rfl rfl) rfl ?_)
        (refine nx (aM (gN rfl) rfl rfl rfl rfl rfl) rfl ?_)
        (refine nx (a_index (j := i) (gN rfl) rfl rfl rfl rfl rfl rfl rfl rfl rfl (ht') rfl (hsa)) rfl ?_)
        (refine nx (a_load_ad (gN rfl) rfl rfl rfl rfl rfl rfl rfl rfl rfl) rfl ?_)
        (refine nx (a_bslice (gN rfl) rfl rfl rfl rfl rfl rfl rfl rfl rfl rfl rfl rfl rfl) rfl ?_)
        (refine nx (a_app (gN rfl) rfl rfl rfl rfl rfl rfl rfl rfl rfl rfl rfl rfl rfl rfl rfl (by first | assumption | exact sZ rfl | exact Tm.size_all _ | exact Bd.size_all _ | exact ints_size _ | exact bys_size _ | exact Lt.size_all _) (by first | assumption | exact sZ rfl | exact Tm.size_all _ | exact Bd.size_all _ | exact ints_size _ | exact bys_size _ | exact Lt.size_all _) (by first | omega | (simp only [List.length_map, List.length_append, List.length_cons, List.length_nil] <;> omega) | (simp <;> omega))) rfl ?_)
        (refine nx (aA (gN rfl) rfl rfl rfl rfl rfl) rfl ?_)
        show AWp _ _ _ _ _ _ _
        refine AWp.wk ((wk_sub (s' := [(0, .val (.lst (a.map Tm.cv))), (1, .val (.lst (b.map Tm.cv))), (5, .sl 300005 0 b.length 1), (300005, .mrow 4 1 (u.map CV.b)), (6, .own (.lst ((out ++ [t]).map Tm.cv)) 300056), (300056, .tok 51 2), (7, .val (.i i))]) ⟨rfl, rfl, rfl, by show some (AV.mrow _ _ _) = some (AV.mrow _ _ _); rw [hus], ?_, rfl, rfl, trivial⟩).trans (wk_ren 300056 200056 rfl rfl rfl rfl)) ?_
        · show some (AV.own (.lst _) _) = some (AV.own (.lst _) _)
          rw [List.map_append, List.map_cons, List.map_nil, Tm.cv_eq t]
        refine aR ?_
        (refine nx (aM (gN rfl) rfl rfl rfl rfl rfl) rfl ?_)
        (refine nx (a_add (gN rfl) rfl rfl rfl rfl rfl rfl (by first | omega | (simp only [List.length_map, List.length_append, List.length_cons, List.length_nil] <;> omega) | (simp <;> omega))) rfl ?_)
        (refine nx (aA (gN rfl) rfl rfl rfl rfl rfl) rfl ?_)
        refine ⟨a.length - (i + 1), st (i + 1) (out ++ [t]) u, by omega, ⟨i + 1, out ++ [t], u, rfl, by omega, hul, ?_, by simp; omega, rfl⟩, wk_sub ⟨rfl, rfl, rfl, rfl, rfl, rfl, rfl, trivial⟩⟩
        rw [← hout, hls, List.append_assoc]; rfl
      · have hn : (!htK h b.length) = false := hn
        obtain ⟨q, hq⟩ : ∃ q, h = some q := by
          cases hc : h with
          | none => rw [hc] at hn; cases hn
          | some q => exact ⟨q, rfl⟩
        have hql := hit_lt (hh.symm.trans hq)
        have hls := hls2 q hq
        have hus : usK h u b.length = u.set q true := by rw [hq]; simp only [usK]; rw [if_pos hql]
        refine aK ?_
        show AWp _ _ _ _ _ _ _
        refine AWp.wk (wk_sub (s' := [(0, .val (.lst (a.map Tm.cv))), (1, .val (.lst (b.map Tm.cv))), (5, .sl 300005 0 b.length 1), (300005, .mrow 4 1 ((u.set q true).map CV.b)), (6, .own (.lst (out.map Tm.cv)) 200056), (200056, .tok 51 2), (7, .val (.i i))]) ⟨rfl, rfl, rfl, by show some (AV.mrow _ _ _) = some (AV.mrow _ _ _); rw [hus], rfl, rfl, rfl, trivial⟩) ?_
        refine aR ?_
        (refine nx (aM (gN rfl) rfl rfl rfl rfl rfl) rfl ?_)
        (refine nx (a_add (gN rfl) rfl rfl rfl rfl rfl rfl (by first | omega | (simp only [List.length_map, List.length_append, List.length_cons, List.length_nil] <;> omega) | (simp <;> omega))) rfl ?_)
        (refine nx (aA (gN rfl) rfl rfl rfl rfl rfl) rfl ?_)
        refine ⟨a.length - (i + 1), st (i + 1) out (u.set q true), by omega, ⟨i + 1, out, u.set q true, rfl, by omega, by simp [hul], ?_, by omega, rfl⟩, wk_sub ⟨rfl, rfl, rfl, rfl, rfl, rfl, rfl, trivial⟩⟩
        rw [← hout, hls]
  · have hil : i = a.length := by
      have : ¬ i < a.length := by simpa using hlt
      omega
    subst hil
    have he : lessD a b = out := by rw [← hout, List.drop_length, lsD, List.append_nil]
    rw [he]
    refine aE ?_
    show AWp _ _ _ _ _ _ _
    refine aS (aR ?_)
    (refine nx (aM (gN rfl) rfl rfl rfl rfl rfl) rfl ?_)
    (refine nx (aA (gN rfl) rfl rfl rfl rfl rfl) rfl ?_)
    show AWp _ _ _ _ _ _ _
    exact aT (And.intro (.inr rfl) rfl)
theorem lsD_mem : ∀ {a b : List Tm} {u : List Bool} {t : Tm}, t ∈ lsD a b u → t ∈ a
  | [], b, u, t, h => by unfold lsD at h; exact h
  | x :: a, b, u, t, h => by
    unfold lsD at h
    split at h
    · rcases List.mem_cons.1 h with rfl | h
      · exact List.mem_cons_self
      · exact List.mem_cons_of_mem _ (lsD_mem h)
    · exact List.mem_cons_of_mem _ (lsD_mem h)
theorem lsD_len : ∀ (a b : List Tm) (u : List Bool), (lsD a b u).length ≤ a.length
  | [], b, u => by unfold lsD; exact Nat.le_refl _
  | x :: a, b, u => by
    unfold lsD
    split
    · have := lsD_len a b u; simp; omega
    · rename_i k _; have := lsD_len a b (u.set k true); simp; omega
noncomputable def undB14 (X : List Tm) (y : Tm) : Bool := X.any fun x => decide (kb x y = 1)
theorem out_und (X Y : List Tm) : outB X Y = (decide (0 < X.length) && Y.all (undB14 X)) := by
  rw [Bool.eq_iff_iff, outB_iff, Bool.and_eq_true, decide_eq_true_iff, List.all_eq_true, List.length_pos_iff]
  refine and_congr_right fun _ => forall_congr' fun y => forall_congr' fun _ => ?_
  unfold undB14
  rw [List.any_eq_true]
  exact exists_congr fun x => and_congr_right fun _ => (decide_eq_true_iff).symm
theorem und_take {X : List Tm} {k : Nat} {x : Tm} (h : X[k]? = some x) (y : Tm) : undB14 (X.take (k + 1)) y = (undB14 (X.take k) y || decide (kb x y = 1)) := by
  unfold undB14
  rw [List.take_add_one, h, List.any_append]
  simp
-- 
theorem rMulti14_abs (W : World) (a b : List Tm) (ha : ∀ t ∈ a, t.fit) (hb : ∀ t ∈ b, t.fit) (hal : a.length ≤ 100000) (hbl : b.length ≤ 100000) : AFun Tryz.prog W 139 [.lst (a.map Tm.cv), .lst (b.map Tm.cv)] (.val (.b (mulB a b))) := by
  rw [← mul_doc, out_und]
  obtain ⟨X, hX⟩ : ∃ X, X = lessD a b := ⟨_, rfl⟩
  obtain ⟨Y, hY⟩ : ∃ Y, Y = lessD b a := ⟨_, rfl⟩
  have hXf : ∀ t ∈ X, t.fit := fun t h => ha t (by rw [hX] at h; exact lsD_mem h)
  have hYf : ∀ t ∈ Y, t.fit := fun t h => hb t (by rw [hY] at h; exact lsD_mem h)
  have hXl : X.length ≤ 100000 := by rw [hX]; exact Nat.le_trans (lsD_len _ _ _) hal
  have hYl : Y.length ≤ 100000 := by rw [hY]; exact Nat.le_trans (lsD_len _ _ _) hbl
  have hsX := Tm.size_all X
  have hsY := Tm.size_all Y
  have hl1 : ∀ w, AFun Tryz.prog w 154 [.lst (a.map Tm.cv), .lst (b.map Tm.cv)] (.val (.lst (X.map Tm.cv))) := fun w => by rw [hX]; exact rLess14_abs w a b (fun t h => (ha t h).2.1) (fun t h => (hb t h).2.1) hal hbl
  have hl2 : ∀ w, AFun Tryz.prog w 154 [.lst (b.map Tm.cv), .lst (a.map Tm.cv)] (.val (.lst (Y.map Tm.cv))) := fun w => by rw [hY]; exact rLess14_abs w b a (fun t h => (hb t h).2.1) (fun t h => (ha t h).2.1) hbl hal
  rw [← hX, ← hY]
  refine afun_of (rs := [.b (decide (0 < X.length) && Y.all (undB14 X))]) Tryz.func139 Tryz.ntmps139 rfl rfl rfl rfl ?_
  intro w U hW
  refine aS (aR ?_)
  (refine nx (aA (gN rfl) rfl rfl rfl rfl rfl) rfl ?_)
  show AWp _ _ _ _ _ _ _
  refine aS (aR ?_)
  (refine nx (aM (gN rfl) rfl rfl rfl rfl rfl) rfl ?_)
  (refine nx (aM (gN rfl) rfl rfl rfl rfl rfl) rfl ?_)
  (refine nx (a_call (gN rfl) rfl rfl rfl rfl rfl (hl1 w)) rfl ?_)
  (refine nx (aM (gN rfl) rfl rfl rfl rfl rfl) rfl ?_)
  (refine nx (aM (gN rfl) rfl rfl rfl rfl rfl) rfl ?_)
  (refine nx (a_call (gN rfl) rfl rfl rfl rfl rfl (hl2 w)) rfl ?_)
  (refine nx (aA (gN rfl) rfl rfl rfl rfl rfl) rfl ?_)
  (refine nx (aA (gN rfl) rfl rfl rfl rfl rfl) rfl ?_)
  show AWp _ _ _ _ _ _ _
  refine aS (aS (aR ?_))
  (refine nx (aA (gN rfl) rfl rfl rfl rfl rfl) rfl ?_)
  show AWp _ _ _ _ _ _ _
  let st : Nat → AS := fun i => [(5, .val (.lst (X.map Tm.cv))), (6, .val (.lst (Y.map Tm.cv))), (7, .val (.i i))]
  refine aB (awp_countI Y.length (fun i => ∀ y ∈ Y.take i, undB14 X y = true) st (wk_sub ⟨rfl, rfl, rfl, trivial⟩) (by simp) ?_)
  intro i hi hI
  refine aS (aS (aR ?_))
  (refine nx (aM (gN rfl) rfl rfl rfl rfl rfl) rfl ?_)
  (refine nx (aM (gN rfl) rfl rfl rfl rfl rfl) rfl ?_)
  (refine nx (a_len (gN rfl) rfl rfl rfl rfl rfl rfl rfl) rfl ?_)
  (refine nx (a_lss (gN rfl) rfl rfl rfl rfl rfl rfl) rfl ?_)
  show AWp _ _ _ _ _ _ _
  refine aC rfl (fun hlt => ?_) (fun hlt => ?_)
  · have hil : i < Y.length := by simpa using hlt
    obtain ⟨y, hy⟩ : ∃ y, Y[i]? = some y := ⟨Y[i], List.getElem?_eq_getElem hil⟩
    have hy' := Tm.map_at hy
    have hyf := hYf y (List.mem_of_getElem? hy)
    refine aK ?_
    show AWp _ _ _ _ _ _ _
    refine aS (aB (aS (aR ?_)))
    (refine nx (aA (gN rfl) rfl rfl rfl rfl rfl) rfl ?_)
    show AWp _ _ _ _ _ _ _
    refine aS (aS (aR ?_))
    (refine nx (aA (gN rfl) rfl rfl rfl rfl rfl) rfl ?_)
    show AWp _ _ _ _ _ _ _
    let st2 : Nat → AS := fun k => [(5, .val (.lst (X.map Tm.cv))), (6, .val (.lst (Y.map Tm.cv))), (7, .val (.i i)), (8, .val (.b (undB14 (X.take k) y))), (9, .val (.i k))]
    refine aB (awp_count X.length st2 (wk_sub ⟨rfl, rfl, rfl, rfl, rfl, trivial⟩) ?_)
    intro k hk
    refine aS (aS (aR ?_))
    (refine nx (aM (gN rfl) rfl rfl rfl rfl rfl) rfl ?_)
    (refine nx (aM (gN rfl) rfl rfl rfl rfl rfl) rfl ?_)
    (refine nx (a_len (gN rfl) rfl rfl rfl rfl rfl rfl rfl) rfl ?_)
    (refine nx (a_lss (gN rfl) rfl rfl rfl rfl rfl rfl) rfl ?_)
    show AWp _ _ _ _ _ _ _
    refine aC rfl (fun hlt2 => ?_) (fun hlt2 => ?_)
    · have hkl : k < X.length := by simpa using hlt2
      obtain ⟨x, hx⟩ : ∃ x, X[k]? = some x := ⟨X[k], List.getElem?_eq_getElem hkl⟩
      have hx' := Tm.map_at hx
      have hxf := hXf x (List.mem_of_getElem? hx)
      have hut := und_take hx y
      refine aK ?_
      show AWp _ _ _ _ _ _ _
      refine aS (aB ?_)
      cases hu : undB14 (X.take k) y with
      | true =>
        rw [hu, Bool.true_or] at hut
        refine AWp.wk (wk_sub (s' := [(5, .val (.lst (X.map Tm.cv))), (6, .val (.lst (Y.map Tm.cv))), (7, .val (.i i)), (8, .val (.b true)), (9, .val (.i k))]) ⟨rfl, rfl, rfl, by rw [← hu]; rfl, rfl, trivial⟩) ?_
        refine aD (by kernel_rfl) (by kernel_rfl) ?_
        (refine nx (aM (gN rfl) rfl rfl rfl rfl rfl) rfl ?_)
        (refine nx (aM (gN rfl) rfl rfl rfl rfl rfl) rfl ?_)
        (refine ⟨_, _, _, a_off (go_off rfl rfl rfl rfl (by first | rfl | assumption | (simp; done) | (simp [*]; done))) rfl rfl rfl, rfl, ?_⟩)
        (refine ⟨_, _, _, a_off (go_off rfl rfl rfl rfl (by first | rfl | assumption | (simp; done) | (simp [*]; done))) rfl rfl rfl, rfl, ?_⟩)
        (refine ⟨_, _, _, a_off (go_off rfl rfl rfl rfl (by first | rfl | assumption | (simp; done) | (simp [*]; done))) rfl rfl rfl, rfl, ?_⟩)
        (refine ⟨_, _, _, a_off (go_off rfl rfl rfl rfl (by first | rfl | assumption | (simp; done) | (simp [*]; done))) rfl rfl rfl, rfl, ?_⟩)
        (refine ⟨_, _, _, a_off (go_off rfl rfl rfl rfl (by first | rfl | assumption | (simp; done) | (simp [*]; done))) rfl rfl rfl, rfl, ?_⟩)
        (refine ⟨_, _, _, a_off (go_off rfl rfl rfl rfl (by first | rfl | assumption | (simp; done) | (simp [*]; done))) rfl rfl rfl, rfl, ?_⟩)
        (refine ⟨_, _, _, a_off (go_off rfl rfl rfl rfl (by first | rfl | assumption | (simp; done) | (simp [*]; done))) rfl rfl rfl, rfl, ?_⟩)
        (refine ⟨_, _, _, a_off (go_off rfl rfl rfl rfl (by first | rfl | assumption | (simp; done) | (simp [*]; done))) rfl rfl rfl, rfl, ?_⟩)
        (refine ⟨_, _, _, a_off (go_off rfl rfl rfl rfl (by first | rfl | assumption | (simp; done) | (simp [*]; done))) rfl rfl rfl, rfl, ?_⟩)
        (refine ⟨_, _, _, aPt (gN rfl) rfl rfl rfl rfl rfl ?hb rfl, rfl, ?_⟩; case hb => (first | rfl | assumption | (simp; done)))
        (refine nx (aA (gN rfl) rfl rfl rfl rfl rfl) rfl ?_)
        refine ⟨by kernel_rfl, ?_⟩
        show AWp _ _ _ _ _ _ _
        refine aR ?_
        (refine nx (aM (gN rfl) rfl rfl rfl rfl rfl) rfl ?_)
        (refine nx (a_add (gN rfl) rfl rfl rfl rfl rfl rfl (by first | omega | (simp only [List.length_map, List.length_append, List.length_cons, List.length_nil] <;> omega) | (simp <;> omega))) rfl ?_)
        (refine nx (aA (gN rfl) rfl rfl rfl rfl rfl) rfl ?_)
        refine ⟨hkl, wk_sub ⟨rfl, rfl, rfl, ?_, rfl, trivial⟩⟩
        rw [hut]; rfl
      | false =>
        rw [hu, Bool.false_or] at hut
        refine AWp.wk (wk_sub (s' := [(5, .val (.lst (X.map Tm.cv))), (6, .val (.lst (Y.map Tm.cv))), (7, .val (.i i)), (8, .val (.b false)), (9, .val (.i k))]) ⟨rfl, rfl, rfl, by rw [← hu]; rfl, rfl, trivial⟩) ?_
        refine aD (by kernel_rfl) (by kernel_rfl) ?_
        (refine nx (aM (gN rfl) rfl rfl rfl rfl rfl) rfl ?_)
        (refine nx (aM (gN rfl) rfl rfl rfl rfl rfl) rfl ?_)
        (refine nx (aM (gd_on rfl rfl rfl rfl (by first | rfl | assumption | (simp; done))) rfl rfl rfl rfl rfl) rfl ?_)
        (refine nx (aM (gd_on rfl rfl rfl rfl (by first | rfl | assumption | (simp; done))) rfl rfl rfl rfl rfl) rfl ?_)
        (refine nx (a_index (j := k) (gd_on rfl rfl rfl rfl (by first | rfl | assumption | (simp; done))) rfl rfl rfl rfl rfl rfl rfl rfl rfl (hx') rfl (hsX)) rfl ?_)
        (refine nx (a_load_ad (gd_on rfl rfl rfl rfl (by first | rfl | assumption | (simp; done))) rfl rfl rfl rfl rfl rfl rfl rfl rfl) rfl ?_)
        (refine nx (aM (gd_on rfl rfl rfl rfl (by first | rfl | assumption | (simp; done))) rfl rfl rfl rfl rfl) rfl ?_)
        (refine nx (aM (gd_on rfl rfl rfl rfl (by first | rfl | assumption | (simp; done))) rfl rfl rfl rfl rfl) rfl ?_)
        (refine nx (a_index (j := i) (gd_on rfl rfl rfl rfl (by first | rfl | assumption | (simp; done))) rfl rfl rfl rfl rfl rfl rfl rfl rfl (hy') rfl (hsY)) rfl ?_)
        (refine nx (a_load_ad (gd_on rfl rfl rfl rfl (by first | rfl | assumption | (simp; done))) rfl rfl rfl rfl rfl rfl rfl rfl rfl) rfl ?_)
        (refine nx (a_call (gd_on rfl rfl rfl rfl (by first | rfl | assumption | (simp; done))) rfl rfl rfl rfl rfl (rGreater_abs w x hxf.1 hxf.2.1 hxf.2.2 y hyf.1 hyf.2.1 hyf.2.2)) rfl ?_)
        (refine ⟨_, _, _, aPf (gN rfl) rfl rfl rfl rfl rfl ?hb rfl, rfl, ?_⟩; case hb => (first | rfl | assumption | (simp; done)))
        (refine nx (aA (gN rfl) rfl rfl rfl rfl rfl) rfl ?_)
        refine ⟨by kernel_rfl, ?_⟩
        show AWp _ _ _ _ _ _ _
        refine aR ?_
        (refine nx (aM (gN rfl) rfl rfl rfl rfl rfl) rfl ?_)
        (refine nx (a_add (gN rfl) rfl rfl rfl rfl rfl rfl (by first | omega | (simp only [List.length_map, List.length_append, List.length_cons, List.length_nil] <;> omega) | (simp <;> omega))) rfl ?_)
        (refine nx (aA (gN rfl) rfl rfl rfl rfl rfl) rfl ?_)
        refine ⟨hkl, wk_sub ⟨rfl, rfl, rfl, ?_, rfl, trivial⟩⟩
        rw [hut]; rfl
    · have hkl : k = X.length := by
        have : ¬ k < X.length := by simpa using hlt2
        omega
      subst hkl
      refine aE ?_
      show AWp _ _ _ _ _ _ _
      refine aS (aR ?_)
      (refine nx (aM (gN rfl) rfl rfl rfl rfl rfl) rfl ?_)
      (refine nx (a_not (gN rfl) rfl rfl rfl rfl rfl) rfl ?_)
      show AWp _ _ _ _ _ _ _
      refine aC rfl (fun hn => ?_) (fun hn => ?_)
      · have hn : (!undB14 (X.take X.length) y) = true := hn
        rw [List.take_length] at hn
        have hno : Y.all (undB14 X) = false := by
          rw [← Bool.not_eq_true, List.all_eq_true]
          intro h
          rw [h y (List.mem_of_getElem? hy)] at hn; cases hn
        rw [hno, Bool.and_false]
        refine aS (aR ?_)
        (refine nx (aA (gN rfl) rfl rfl rfl rfl rfl) rfl ?_)
        show AWp _ _ _ _ _ _ _
        exact aT (And.intro (.inr rfl) rfl)
      · have hn : (!undB14 (X.take X.length) y) = false := hn
        rw [List.take_length] at hn
        refine aK ?_
        show AWp _ _ _ _ _ _ _
        refine aR ?_
        (refine nx (aM (gN rfl) rfl rfl rfl rfl rfl) rfl ?_)
        (refine nx (a_add (gN rfl) rfl rfl rfl rfl rfl rfl (by first | omega | (simp only [List.length_map, List.length_append, List.length_cons, List.length_nil] <;> omega) | (simp <;> omega))) rfl ?_)
        (refine nx (aA (gN rfl) rfl rfl rfl rfl rfl) rfl ?_)
        refine ⟨hil, ?_, wk_sub ⟨rfl, rfl, rfl, trivial⟩⟩
        intro z hz
        rw [List.take_add_one, hy, List.mem_append] at hz
        rcases hz with hz | hz
        · exact hI z hz
        · simp at hz; rw [hz]; simpa using hn
  · have hil : i = Y.length := by
      have : ¬ i < Y.length := by simpa using hlt
      omega
    subst hil
    rw [List.take_length] at hI
    rw [List.all_eq_true.2 hI, Bool.and_true]
    have e : decide (0 < X.length) = decide (((X.map Tm.cv).length : Int) > 0) := by simp
    rw [e]
    refine aE ?_
    show AWp _ _ _ _ _ _ _
    refine aS (aR ?_)
    (refine nx (aM (gN rfl) rfl rfl rfl rfl rfl) rfl ?_)
    (refine nx (a_len (gN rfl) rfl rfl rfl rfl rfl rfl rfl) rfl ?_)
    (refine nx (a_gtr (gN rfl) rfl rfl rfl rfl rfl rfl) rfl ?_)
    (refine nx (aA (gN rfl) rfl rfl rfl rfl rfl) rfl ?_)
    show AWp _ _ _ _ _ _ _
    exact aT (And.intro (.inr rfl) rfl)
-- 
theorem rGr14_abs (W : World) (x y : Lt) (hx : x.fit) (hy : y.fit) : AFun Tryz.prog W 114 [x.cw, y.cw] (.val (.b (mulB (tmsL x) (tmsL y)))) := by
  have l1 := tmsL_len x
  have l2 := tmsL_len y
  refine afun_of (rs := [.b (mulB (tmsL x) (tmsL y))]) Tryz.func114 Tryz.ntmps114 rfl rfl rfl rfl ?_
  intro w U hW
  refine aS (aR ?_)
  (refine nx (a_box (gN rfl) rfl rfl rfl rfl rfl) rfl ?_)
  (refine nx (a_box (gN rfl) rfl rfl rfl rfl rfl) rfl ?_)
  (refine nx (aA (gN rfl) rfl rfl rfl rfl rfl) rfl ?_)
  show AWp _ _ _ _ _ _ _
  refine aS (aD (by kernel_rfl) (by kernel_rfl) ?_)
  (refine nx (aL (gN rfl) rfl rfl rfl rfl rfl rfl rfl rfl rfl rfl rfl rfl) rfl ?_)
  (refine nx (a_call (gN rfl) rfl rfl rfl rfl rfl (rTms_abs w x)) rfl ?_)
  (refine nx (aL (gN rfl) rfl rfl rfl rfl rfl rfl rfl rfl rfl rfl rfl rfl) rfl ?_)
  (refine nx (a_call (gN rfl) rfl rfl rfl rfl rfl (rTms_abs w y)) rfl ?_)
  (refine nx (a_call (gN rfl) rfl rfl rfl rfl rfl (rMulti14_abs w (tmsL x) (tmsL y) (tmsL_mem hx) (tmsL_mem hy) (by omega) (by omega))) rfl ?_)
  (refine nx (aA (gN rfl) rfl rfl rfl rfl rfl) rfl ?_)
  refine ⟨by kernel_rfl, ?_⟩
  show AWp _ _ _ _ _ _ _
  exact aT (And.intro (.inr rfl) rfl)
-- 
theorem rWt14_abs (W : World) (l : Lt) (h : l.fit) : AFun Tryz.prog W 79 [l.cw] (.val (.i (wtL l))) := by
  have h1 := h.1.2.2
  have h2 := h.2.2.2
  have f1 : l.a.flat.length = l.a.size := rfl
  have f2 : l.b.flat.length = l.b.size := rfl
  have e : wtL l = ((l.a.flat.map Tm.cv).length : Int) + ((l.b.flat.map Tm.cv).length : Int) := by unfold wtL; rw [List.length_map, List.length_map]; rfl
  rw [e]
  refine afun_of (rs := [.i (((l.a.flat.map Tm.cv).length : Int) + ((l.b.flat.map Tm.cv).length : Int))]) Tryz.func79 Tryz.ntmps79 rfl rfl rfl rfl ?_
  intro w U hW
  refine aS (aR ?_)
  (refine nx (a_box (gN rfl) rfl rfl rfl rfl rfl) rfl ?_)
  (refine nx (aA (gN rfl) rfl rfl rfl rfl rfl) rfl ?_)
  show AWp _ _ _ _ _ _ _
  refine aS (aD (by kernel_rfl) (by kernel_rfl) ?_)
  (refine nx (aF (gN rfl) rfl rfl rfl rfl rfl rfl rfl rfl rfl) rfl ?_)
  (refine nx (aLb (gN rfl) rfl rfl rfl rfl rfl rfl rfl rfl rfl rfl rfl rfl) rfl ?_)
  (refine nx (a_call (gN rfl) rfl rfl rfl rfl rfl (refFlat_abs w l.a h.1.2.1 h1)) rfl ?_)
  (refine nx (a_len (gN rfl) rfl rfl rfl rfl rfl rfl rfl) rfl ?_)
  (refine nx (aF (gN rfl) rfl rfl rfl rfl rfl rfl rfl rfl rfl) rfl ?_)
  (refine nx (aLb (gN rfl) rfl rfl rfl rfl rfl rfl rfl rfl rfl rfl rfl rfl) rfl ?_)
  (refine nx (a_call (gN rfl) rfl rfl rfl rfl rfl (refFlat_abs w l.b h.2.2.1 h2)) rfl ?_)
  (refine nx (a_len (gN rfl) rfl rfl rfl rfl rfl rfl rfl) rfl ?_)
  (refine nx (a_add (gN rfl) rfl rfl rfl rfl rfl rfl (by first | omega | (simp only [List.length_map, List.length_append, List.length_cons, List.length_nil] <;> omega) | (simp <;> omega))) rfl ?_)
  (refine nx (aA (gN rfl) rfl rfl rfl rfl rfl) rfl ?_)
  refine ⟨by kernel_rfl, ?_⟩
  show AWp _ _ _ _ _ _ _
  exact aT (And.intro (.inr rfl) rfl)
-- 
theorem rGst14_abs (W : World) (c : List Lt) (q : Nat) (x : Lt) (hq : c[q]? = some x) (hn : c.length ≤ 100000) (hc : ∀ l ∈ c, l.fit) : AFun Tryz.prog W 80 [.lst (c.map Lt.cv), .i (q : Int)] (.val (.b (gstL c x))) := by
  have hsz := Lt.size_all c
  have hq' := Lt.map_at hq
  have hxf := hc x (List.mem_of_getElem? hq)
  refine afun_of (rs := [.b (gstL c x)]) Tryz.func80 Tryz.ntmps80 rfl rfl rfl rfl ?_
  intro w U hW
  refine aS (aR ?_)
  (refine nx (aA (gN rfl) rfl rfl rfl rfl rfl) rfl ?_)
  show AWp _ _ _ _ _ _ _
  refine aS (aS (aR ?_))
  (refine nx (aA (gN rfl) rfl rfl rfl rfl rfl) rfl ?_)
  show AWp _ _ _ _ _ _ _
  let st : Nat → AS := fun k => [(0, .val (.lst (c.map Lt.cv))), (1, .val (.i q)), (5, .val (.i k))]
  refine aB (awp_countI c.length (fun k => ∀ l ∈ c.take k, mulB (tmsL l) (tmsL x) = false) st (wk_sub ⟨rfl, rfl, rfl, trivial⟩) (by simp) ?_)
  intro k hk hI
  refine aS (aS (aR ?_))
  (refine nx (aM (gN rfl) rfl rfl rfl rfl rfl) rfl ?_)
  (refine nx (aM (gN rfl) rfl rfl rfl rfl rfl) rfl ?_)
  (refine nx (a_len (gN rfl) rfl rfl rfl rfl rfl rfl rfl) rfl ?_)
  (refine nx (a_lss (gN rfl) rfl rfl rfl rfl rfl rfl) rfl ?_)
  show AWp _ _ _ _ _ _ _
  refine aC rfl (fun hlt => ?_) (fun hlt => ?_)
  · have hkl : k < c.length := by simpa using hlt
    obtain ⟨l, hl⟩ : ∃ l, c[k]? = some l := ⟨c[k], List.getElem?_eq_getElem hkl⟩
    have hl' := Lt.map_at hl
    have hlf := hc l (List.mem_of_getElem? hl)
    refine aK ?_
    show AWp _ _ _ _ _ _ _
    refine aS (aB (aS (aD (by kernel_rfl) (by kernel_rfl) ?_)))
    (refine nx (aM (gN rfl) rfl rfl rfl rfl rfl) rfl ?_)
    (refine nx (aM (gN rfl) rfl rfl rfl rfl rfl) rfl ?_)
    (refine nx (a_index (j := k) (gN rfl) rfl rfl rfl rfl rfl rfl rfl rfl rfl (hl') rfl (hsz)) rfl ?_)
    (refine nx (a_load_ad (gN rfl) rfl rfl rfl rfl rfl rfl rfl rfl rfl) rfl ?_)
    (refine nx (aM (gN rfl) rfl rfl rfl rfl rfl) rfl ?_)
    (refine nx (aM (gN rfl) rfl rfl rfl rfl rfl) rfl ?_)
    (refine nx (a_index (j := q) (gN rfl) rfl rfl rfl rfl rfl rfl rfl rfl rfl (hq') rfl (hsz)) rfl ?_)
    (refine nx (a_load_ad (gN rfl) rfl rfl rfl rfl rfl rfl rfl rfl rfl) rfl ?_)
    (refine nx (a_call (gN rfl) rfl rfl rfl rfl rfl (rGr14_abs w l x hlf hxf)) rfl ?_)
    refine ⟨by kernel_rfl, ?_⟩
    show AWp _ _ _ _ _ _ _
    refine aC rfl (fun hg => ?_) (fun hg => ?_)
    · have hg : mulB (tmsL l) (tmsL x) = true := hg
      have hno : gstL c x = false := by unfold gstL; rw [List.any_eq_true.2 ⟨l, List.mem_of_getElem? hl, hg⟩]; rfl
      rw [hno]
      refine aS (aR ?_)
      (refine nx (aA (gN rfl) rfl rfl rfl rfl rfl) rfl ?_)
      show AWp _ _ _ _ _ _ _
      exact aT (And.intro (.inr rfl) rfl)
    · have hg : mulB (tmsL l) (tmsL x) = false := hg
      refine aK ?_
      show AWp _ _ _ _ _ _ _
      refine aR ?_
      (refine nx (aM (gN rfl) rfl rfl rfl rfl rfl) rfl ?_)
      (refine nx (a_add (gN rfl) rfl rfl rfl rfl rfl rfl (by first | omega | (simp only [List.length_map, List.length_append, List.length_cons, List.length_nil] <;> omega) | (simp <;> omega))) rfl ?_)
      (refine nx (aA (gN rfl) rfl rfl rfl rfl rfl) rfl ?_)
      refine ⟨hkl, ?_, wk_sub ⟨rfl, rfl, rfl, trivial⟩⟩
      intro z hz
      rw [List.take_add_one, hl, List.mem_append] at hz
      rcases hz with hz | hz
      · exact hI z hz
      · simp at hz; rw [hz]; exact hg
  · have hkl : k = c.length := by
      have : ¬ k < c.length := by simpa using hlt
      omega
    subst hkl
    rw [List.take_length] at hI
    have hyes : gstL c x = true := by
      unfold gstL
      rw [List.any_eq_false.2 fun l hl => by rw [hI l hl]; decide]; rfl
    rw [hyes]
    refine aE ?_
    show AWp _ _ _ _ _ _ _
    refine aS (aR ?_)
    (refine nx (aA (gN rfl) rfl rfl rfl rfl rfl) rfl ?_)
    show AWp _ _ _ _ _ _ _
    exact aT (And.intro (.inr rfl) rfl)
theorem gstI_at {c : List Lt} {k : Nat} {x : Lt} (h : c[k]? = some x) : gstI c (k : Int) = gstL c x := by unfold gstI; rw [if_pos (by omega), Int.toNat_natCast, h]
theorem wtL_pos (l : Lt) : 0 < wtL l := by have := l.a.size_pos; unfold wtL; omega
theorem hv_facts (c : List Lt) : ∀ k, k ≤ c.length → (hvK c k = (-1, 0) ∧ ∀ j l, j < k → c[j]? = some l → l.neg = false) ∨ ∃ p x, p < k ∧ c[p]? = some x ∧ x.neg = true ∧ hvK c k = ((p : Int), wtL x) ∧ (∀ j l, j < k → c[j]? = some l → l.neg = true → wtL l ≤ wtL x) ∧ ∀ j l, j < p → c[j]? = some l → l.neg = true → wtL l < wtL x
  | 0, _ => .inl ⟨rfl, fun j l h => by omega⟩
  | k + 1, hk => by
    obtain ⟨y, hy⟩ : ∃ y, c[k]? = some y := ⟨c[k], List.getElem?_eq_getElem (by omega)⟩
    have hK : hvK c (k + 1) = if y.neg = true ∧ (hvK c k).2 < wtL y then ((k : Int), wtL y) else hvK c k := by conv => lhs; unfold hvK; rw [hy]
    have hwp := wtL_pos y
    rcases hv_facts c k (by omega) with ⟨h1, h2⟩ | ⟨p, x, hp, hx, hxn, h1, h2, h3⟩
    · by_cases hn : y.neg = true
      · right
        refine ⟨k, y, by omega, hy, hn, by rw [hK, if_pos ⟨hn, by rw [h1]; exact hwp⟩], fun j l hj hl hln => ?_, fun j l hj hl hln => ?_⟩
        · by_cases hjk : j = k
          · subst hjk; rw [hy] at hl; cases hl; exact Int.le_refl _
          · rw [h2 j l (by omega) hl] at hln; cases hln
        · rw [h2 j l hj hl] at hln; cases hln
      · left
        refine ⟨by rw [hK, if_neg (fun h => hn h.1), h1], fun j l hj hl => ?_⟩
        by_cases hjk : j = k
        · subst hjk; rw [hy] at hl; cases hl; simpa using hn
        · exact h2 j l (by omega) hl
    · right
      by_cases hc : y.neg = true ∧ (hvK c k).2 < wtL y
      · rw [h1] at hc
        have hlt : wtL x < wtL y := hc.2
        refine ⟨k, y, by omega, hy, hc.1, by rw [hK, h1, if_pos hc], fun j l hj hl hln => ?_, fun j l hj hl hln => ?_⟩
        · by_cases hjk : j = k
          · subst hjk; rw [hy] at hl; cases hl; exact Int.le_refl _
          · have := h2 j l (by omega) hl hln; omega
        · have := h2 j l hj hl hln; omega
      · refine ⟨p, x, by omega, hx, hxn, by rw [hK, if_neg hc, h1], fun j l hj hl hln => ?_, h3⟩
        by_cases hjk : j = k
        · subst hjk; rw [hy] at hl; cases hl
          rw [h1] at hc
          have : ¬ wtL x < wtL y := fun h => hc ⟨hln, h⟩
          omega
        · exact h2 j l (by omega) hl hln
-- 
theorem rLook14_abs (W : World) (c : List Lt) (hn : c.length ≤ 100000) (hc : ∀ l ∈ c, l.fit) : AFun Tryz.prog W 54 [.lst (c.map Lt.cv)] (.val (.lst ((lokL c).map CV.i))) := by
  have hsz := Lt.size_all c
  refine afun_of (rs := [.lst ((lokL c).map CV.i)]) Tryz.func54 Tryz.ntmps54 rfl rfl rfl rfl ?_
  intro w U hW
  refine aS (aR ?_)
  (refine nx (aA (gN rfl) rfl rfl rfl rfl rfl) rfl ?_)
  show AWp _ _ _ _ _ _ _
  refine aS (aR ?_)
  (refine nx (aA (gN rfl) rfl rfl rfl rfl rfl) rfl ?_)
  show AWp _ _ _ _ _ _ _
  refine aS (aS (aR ?_))
  (refine nx (aA (gN rfl) rfl rfl rfl rfl rfl) rfl ?_)
  show AWp _ _ _ _ _ _ _
  let st : Nat → AS := fun k => [(0, .val (.lst (c.map Lt.cv))), (3, .val (.i (hvK c k).2)), (4, .val (.i k))]
  refine aB (awp_count c.length st (wk_sub ⟨rfl, rfl, rfl, trivial⟩) ?_)
  intro k hk
  refine aS (aS (aR ?_))
  (refine nx (aM (gN rfl) rfl rfl rfl rfl rfl) rfl ?_)
  (refine nx (aM (gN rfl) rfl rfl rfl rfl rfl) rfl ?_)
  (refine nx (a_len (gN rfl) rfl rfl rfl rfl rfl rfl rfl) rfl ?_)
  (refine nx (a_lss (gN rfl) rfl rfl rfl rfl rfl rfl) rfl ?_)
  show AWp _ _ _ _ _ _ _
  refine aC rfl (fun hlt => ?_) (fun hlt => ?_)
  · have hkl : k < c.length := by simpa using hlt
    obtain ⟨x, hx⟩ : ∃ x, c[k]? = some x := ⟨c[k], List.getElem?_eq_getElem hkl⟩
    have hx' := Lt.map_at hx
    have hxf := hc x (List.mem_of_getElem? hx)
    have hK : hvK c (k + 1) = if x.neg = true ∧ (hvK c k).2 < wtL x then ((k : Int), wtL x) else hvK c k := by conv => lhs; unfold hvK; rw [hx]
    refine aK ?_
    show AWp _ _ _ _ _ _ _
    refine aS (aB ?_)
    cases hng : x.neg with
    | true =>
      refine aS (aR ?_)
      (refine nx (aM (gN rfl) rfl rfl rfl rfl rfl) rfl ?_)
      (refine nx (aM (gN rfl) rfl rfl rfl rfl rfl) rfl ?_)
      (refine nx (a_index (j := k) (gN rfl) rfl rfl rfl rfl rfl rfl rfl rfl rfl (hx') rfl (hsz)) rfl ?_)
      (refine nx (a_field_ad (gN rfl) rfl rfl rfl rfl rfl rfl rfl rfl rfl rfl rfl) rfl ?_)
      (refine nx (a_load_ad (gN rfl) rfl rfl rfl rfl rfl rfl rfl rfl rfl) rfl ?_)
      (refine nx (aM (gN rfl) rfl rfl rfl rfl rfl) rfl ?_)
      (refine nx (aM (gd_on rfl rfl rfl rfl (by first | rfl | assumption | (simp; done))) rfl rfl rfl rfl rfl) rfl ?_)
      (refine nx (aM (gd_on rfl rfl rfl rfl (by first | rfl | assumption | (simp; done))) rfl rfl rfl rfl rfl) rfl ?_)
      (refine nx (a_index (j := k) (gd_on rfl rfl rfl rfl (by first | rfl | assumption | (simp; done))) rfl rfl rfl rfl rfl rfl rfl rfl rfl (hx') rfl (hsz)) rfl ?_)
      (refine nx (a_load_ad (gd_on rfl rfl rfl rfl (by first | rfl | assumption | (simp; done))) rfl rfl rfl rfl rfl rfl rfl rfl rfl) rfl ?_)
      (refine nx (a_call (gd_on rfl rfl rfl rfl (by first | rfl | assumption | (simp; done))) rfl rfl rfl rfl rfl (rWt14_abs w x hxf)) rfl ?_)
      (refine nx (aM (gd_on rfl rfl rfl rfl (by first | rfl | assumption | (simp; done))) rfl rfl rfl rfl rfl) rfl ?_)
      (refine nx (a_gtr (gd_on rfl rfl rfl rfl (by first | rfl | assumption | (simp; done))) rfl rfl rfl rfl rfl rfl) rfl ?_)
      (refine ⟨_, _, _, aPt (gN rfl) rfl rfl rfl rfl rfl ?hb rfl, rfl, ?_⟩; case hb => (first | rfl | assumption | (simp; done)))
      show AWp _ _ _ _ _ _ _
      refine aC rfl (fun hg => ?_) (fun hg => ?_)
      · have hg : decide (wtL x > (hvK c k).2) = true := hg
        have e : (hvK c (k + 1)).2 = wtL x := by rw [hK, if_pos ⟨hng, by have := of_decide_eq_true hg; omega⟩]
        refine aR ?_
        (refine nx (aM (gN rfl) rfl rfl rfl rfl rfl) rfl ?_)
        (refine nx (aM (gN rfl) rfl rfl rfl rfl rfl) rfl ?_)
        (refine nx (a_index (j := k) (gN rfl) rfl rfl rfl rfl rfl rfl rfl rfl rfl (hx') rfl (hsz)) rfl ?_)
        (refine nx (a_load_ad (gN rfl) rfl rfl rfl rfl rfl rfl rfl rfl rfl) rfl ?_)
        (refine nx (a_call (gN rfl) rfl rfl rfl rfl rfl (rWt14_abs w x hxf)) rfl ?_)
        (refine nx (aA (gN rfl) rfl rfl rfl rfl rfl) rfl ?_)
        show AWp _ _ _ _ _ _ _
        refine aR ?_
        (refine nx (aM (gN rfl) rfl rfl rfl rfl rfl) rfl ?_)
        (refine nx (a_add (gN rfl) rfl rfl rfl rfl rfl rfl (by first | omega | (simp only [List.length_map, List.length_append, List.length_cons, List.length_nil] <;> omega) | (simp <;> omega))) rfl ?_)
        (refine nx (aA (gN rfl) rfl rfl rfl rfl rfl) rfl ?_)
        refine ⟨hkl, wk_sub ⟨rfl, ?_, rfl, trivial⟩⟩
        rw [e]; rfl
      · have hg : decide (wtL x > (hvK c k).2) = false := hg
        have e : hvK c (k + 1) = hvK c k := by rw [hK, if_neg (fun h => by have := of_decide_eq_false hg; have := h.2; omega)]
        refine aK ?_
        show AWp _ _ _ _ _ _ _
        refine aR ?_
        (refine nx (aM (gN rfl) rfl rfl rfl rfl rfl) rfl ?_)
        (refine nx (a_add (gN rfl) rfl rfl rfl rfl rfl rfl (by first | omega | (simp only [List.length_map, List.length_append, List.length_cons, List.length_nil] <;> omega) | (simp <;> omega))) rfl ?_)
        (refine nx (aA (gN rfl) rfl rfl rfl rfl rfl) rfl ?_)
        refine ⟨hkl, wk_sub ⟨rfl, ?_, rfl, trivial⟩⟩
        rw [e]; rfl
    | false =>
      have e : hvK c (k + 1) = hvK c k := by rw [hK, if_neg (fun h => by rw [hng] at h; cases h.1)]
      refine aS (aR ?_)
      (refine nx (aM (gN rfl) rfl rfl rfl rfl rfl) rfl ?_)
      (refine nx (aM (gN rfl) rfl rfl rfl rfl rfl) rfl ?_)
      (refine nx (a_index (j := k) (gN rfl) rfl rfl rfl rfl rfl rfl rfl rfl rfl (hx') rfl (hsz)) rfl ?_)
      (refine nx (a_field_ad (gN rfl) rfl rfl rfl rfl rfl rfl rfl rfl rfl rfl rfl) rfl ?_)
      (refine nx (a_load_ad (gN rfl) rfl rfl rfl rfl rfl rfl rfl rfl rfl) rfl ?_)
      (refine nx (aM (gN rfl) rfl rfl rfl rfl rfl) rfl ?_)
      (refine ⟨_, _, _, a_off (go_off rfl rfl rfl rfl (by first | rfl | assumption | (simp; done) | (simp [*]; done))) rfl rfl rfl, rfl, ?_⟩)
      (refine ⟨_, _, _, a_off (go_off rfl rfl rfl rfl (by first | rfl | assumption | (simp; done) | (simp [*]; done))) rfl rfl rfl, rfl, ?_⟩)
      (refine ⟨_, _, _, a_off (go_off rfl rfl rfl rfl (by first | rfl | assumption | (simp; done) | (simp [*]; done))) rfl rfl rfl, rfl, ?_⟩)
      (refine ⟨_, _, _, a_off (go_off rfl rfl rfl rfl (by first | rfl | assumption | (simp; done) | (simp [*]; done))) rfl rfl rfl, rfl, ?_⟩)
      (refine ⟨_, _, _, a_off (go_off rfl rfl rfl rfl (by first | rfl | assumption | (simp; done) | (simp [*]; done))) rfl rfl rfl, rfl, ?_⟩)
      (refine ⟨_, _, _, a_off (go_off rfl rfl rfl rfl (by first | rfl | assumption | (simp; done) | (simp [*]; done))) rfl rfl rfl, rfl, ?_⟩)
      (refine ⟨_, _, _, a_off (go_off rfl rfl rfl rfl (by first | rfl | assumption | (simp; done) | (simp [*]; done))) rfl rfl rfl, rfl, ?_⟩)
      (refine ⟨_, _, _, aPf (gN rfl) rfl rfl rfl rfl rfl ?hb rfl, rfl, ?_⟩; case hb => (first | rfl | assumption | (simp; done)))
      show AWp _ _ _ _ _ _ _
      refine aC rfl (fun h => by cases h) (fun _ => ?_)
      refine aK ?_
      show AWp _ _ _ _ _ _ _
      refine aR ?_
      (refine nx (aM (gN rfl) rfl rfl rfl rfl rfl) rfl ?_)
      (refine nx (a_add (gN rfl) rfl rfl rfl rfl rfl rfl (by first | omega | (simp only [List.length_map, List.length_append, List.length_cons, List.length_nil] <;> omega) | (simp <;> omega))) rfl ?_)
      (refine nx (aA (gN rfl) rfl rfl rfl rfl rfl) rfl ?_)
      refine ⟨hkl, wk_sub ⟨rfl, ?_, rfl, trivial⟩⟩
      rw [e]; rfl
  · have hkl : k = c.length := by
      have : ¬ k < c.length := by simpa using hlt
      omega
    subst hkl
    refine aE ?_
    show AWp _ _ _ _ _ _ _
    obtain ⟨M, hM⟩ : ∃ M, M = (hvK c c.length).2 := ⟨_, rfl⟩
    refine AWp.wk (wk_sub (s' := [(0, .val (.lst (c.map Lt.cv))), (3, .val (.i M))]) ⟨rfl, by rw [hM]; rfl, trivial⟩) ?_
    refine aS (aR ?_)
    (refine nx (aA (gN rfl) rfl rfl rfl rfl rfl) rfl ?_)
    show AWp _ _ _ _ _ _ _
    refine aS (aS (aR ?_))
    (refine nx (aA (gN rfl) rfl rfl rfl rfl rfl) rfl ?_)
    show AWp _ _ _ _ _ _ _
    rcases hv_facts c c.length (Nat.le_refl _) with ⟨h1, h2⟩ | ⟨p, x, hp, hx, hxn, h1, h2, h3⟩
    · -- none is Neg
      have hM0 : M = 0 := by rw [hM, h1]
      subst hM0
      have hlk : lokL c = gsK c c.length := by unfold lokL; rw [h1, if_neg (by decide)]
      rw [hlk]
      let st2 : Nat → AS := fun k => [(0, .val (.lst (c.map Lt.cv))), (3, .val (.i 0)), (5, .own (.lst ((gsK c k).map CV.i)) 200068), (200068, .tok 3 1), (6, .val (.i k))]
      refine aB (awp_count c.length st2 ((wk_nil 5 200068 3 1 rfl rfl rfl rfl rfl rfl rfl).trans (wk_sub ⟨rfl, rfl, rfl, rfl, rfl, trivial⟩)) ?_)
      intro k hk
      refine aS (aS (aR ?_))
      (refine nx (aM (gN rfl) rfl rfl rfl rfl rfl) rfl ?_)
      (refine nx (aM (gN rfl) rfl rfl rfl rfl rfl) rfl ?_)
      (refine nx (a_len (gN rfl) rfl rfl rfl rfl rfl rfl rfl) rfl ?_)
      (refine nx (a_lss (gN rfl) rfl rfl rfl rfl rfl rfl) rfl ?_)
      show AWp _ _ _ _ _ _ _
      refine aC rfl (fun hlt => ?_) (fun hlt => ?_)
      · have hkl : k < c.length := by simpa using hlt
        obtain ⟨x, hx⟩ : ∃ x, c[k]? = some x := ⟨c[k], List.getElem?_eq_getElem hkl⟩
        have hgI := gstI_at hx
        have hl3 : ((gsK c k).map CV.i).length ≤ k := by rw [List.length_map]; exact gsK_len c k
        have hl4 := gsK_len c k
        have hsz3 : ∀ x ∈ (gsK c k).map CV.i, x.size = 1 := ints_size _
        refine aK ?_
        show AWp _ _ _ _ _ _ _
        refine aS (aB (aS (aS (aR ?_))))
        (refine nx (aM (gN rfl) rfl rfl rfl rfl rfl) rfl ?_)
        (refine nx (a_gtr (gN rfl) rfl rfl rfl rfl rfl rfl) rfl ?_)
        (refine nx (aM (gN rfl) rfl rfl rfl rfl rfl) rfl ?_)
        (refine ⟨_, _, _, a_off (go_off rfl rfl rfl rfl (by first | rfl | assumption | (simp; done) | (simp [*]; done))) rfl rfl rfl, rfl, ?_⟩)
        (refine ⟨_, _, _, a_off (go_off rfl rfl rfl rfl (by first | rfl | assumption | (simp; done) | (simp [*]; done))) rfl rfl rfl, rfl, ?_⟩)
        (refine ⟨_, _, _, a_off (go_off rfl rfl rfl rfl (by first | rfl | assumption | (simp; done) | (simp [*]; done))) rfl rfl rfl, rfl, ?_⟩)
        (refine ⟨_, _, _, a_off (go_off rfl rfl rfl rfl (by first | rfl | assumption | (simp; done) | (simp [*]; done))) rfl rfl rfl, rfl, ?_⟩)
        (refine ⟨_, _, _, a_off (go_off rfl rfl rfl rfl (by first | rfl | assumption | (simp; done) | (simp [*]; done))) rfl rfl rfl, rfl, ?_⟩)
        (refine ⟨_, _, _, aPf (gN rfl) rfl rfl rfl rfl rfl ?hb rfl, rfl, ?_⟩; case hb => (first | rfl | assumption | (simp; done)))
        (refine nx (aM (gN rfl) rfl rfl rfl rfl rfl) rfl ?_)
        (refine ⟨_, _, _, a_off (go_off rfl rfl rfl rfl (by first | rfl | assumption | (simp; done) | (simp [*]; done))) rfl rfl rfl, rfl, ?_⟩)
        (refine ⟨_, _, _, a_off (go_off rfl rfl rfl rfl (by first | rfl | assumption | (simp; done) | (simp [*]; done))) rfl rfl rfl, rfl, ?_⟩)
        (refine ⟨_, _, _, a_off (go_off rfl rfl rfl rfl (by first | rfl | assumption | (simp; done) | (simp [*]; done))) rfl rfl rfl, rfl, ?_⟩)
        (refine ⟨_, _, _, a_off (go_off rfl rfl rfl rfl (by first | rfl | assumption | (simp; done) | (simp [*]; done))) rfl rfl rfl, rfl, ?_⟩)
        (refine ⟨_, _, _, a_off (go_off rfl rfl rfl rfl (by first | rfl | assumption | (simp; done) | (simp [*]; done))) rfl rfl rfl, rfl, ?_⟩)
        (refine ⟨_, _, _, a_off (go_off rfl rfl rfl rfl (by first | rfl | assumption | (simp; done) | (simp [*]; done))) rfl rfl rfl, rfl, ?_⟩)
        (refine ⟨_, _, _, a_off (go_off rfl rfl rfl rfl (by first | rfl | assumption | (simp; done) | (simp [*]; done))) rfl rfl rfl, rfl, ?_⟩)
        (refine ⟨_, _, _, aPf (gN rfl) rfl rfl rfl rfl rfl ?hb rfl, rfl, ?_⟩; case hb => (first | rfl | assumption | (simp; done)))
        show AWp _ _ _ _ _ _ _
        refine aC rfl (fun h => by cases h) (fun _ => ?_)
        refine aK ?_
        show AWp _ _ _ _ _ _ _
        refine aS (aR ?_)
        (refine nx (aM (gN rfl) rfl rfl rfl rfl rfl) rfl ?_)
        (refine nx (a_eql (gN rfl) rfl rfl rfl rfl rfl rfl) rfl ?_)
        (refine nx (aM (gN rfl) rfl rfl rfl rfl rfl) rfl ?_)
        (refine nx (aM (gd_on rfl rfl rfl rfl (by first | rfl | assumption | (simp; done))) rfl rfl rfl rfl rfl) rfl ?_)
        (refine nx (aM (gd_on rfl rfl rfl rfl (by first | rfl | assumption | (simp; done))) rfl rfl rfl rfl rfl) rfl ?_)
        (refine nx (a_call (gd_on rfl rfl rfl rfl (by first | rfl | assumption | (simp; done))) rfl rfl rfl rfl rfl (rGst14_abs w c k x hx hn hc)) rfl ?_)
        (refine ⟨_, _, _, aPt (gN rfl) rfl rfl rfl rfl rfl ?hb rfl, rfl, ?_⟩; case hb => (first | rfl | assumption | (simp; done)))
        show AWp _ _ _ _ _ _ _
        refine aC rfl (fun hg => ?_) (fun hg => ?_)
        · have hg : gstL c x = true := hg
          refine aR ?_
          (refine nx (aM (gN rfl) rfl rfl rfl rfl rfl) rfl ?_)
          (refine nx (aM (gN rfl) rfl rfl rfl rfl rfl) rfl ?_)
          (refine nx (a_bslice (gN rfl) rfl rfl rfl rfl rfl rfl rfl rfl rfl rfl rfl rfl rfl) rfl ?_)
          (refine nx (a_app (gN rfl) rfl rfl rfl rfl rfl rfl rfl rfl rfl rfl rfl rfl rfl rfl rfl (by first | assumption | exact sZ rfl | exact Tm.size_all _ | exact Bd.size_all _ | exact ints_size _ | exact bys_size _ | exact Lt.size_all _) (by first | assumption | exact sZ rfl | exact Tm.size_all _ | exact Bd.size_all _ | exact ints_size _ | exact bys_size _ | exact Lt.size_all _) (by first | omega | (simp only [List.length_map, List.length_append, List.length_cons, List.length_nil] <;> omega) | (simp <;> omega))) rfl ?_)
          (refine nx (aA (gN rfl) rfl rfl rfl rfl rfl) rfl ?_)
          show AWp _ _ _ _ _ _ _
          refine AWp.wk ((wk_sub (s' := [(0, .val (.lst (c.map Lt.cv))), (3, .val (.i 0)), (5, .own (.lst ((gsK c k).map CV.i ++ [CV.i (k : Int)])) 300068), (300068, .tok 3 1), (6, .val (.i k))]) ⟨rfl, rfl, rfl, rfl, rfl, trivial⟩).trans (wk_ren 300068 200068 rfl rfl rfl rfl)) ?_
          refine aR ?_
          (refine nx (aM (gN rfl) rfl rfl rfl rfl rfl) rfl ?_)
          (refine nx (a_add (gN rfl) rfl rfl rfl rfl rfl rfl (by first | omega | (simp only [List.length_map, List.length_append, List.length_cons, List.length_nil] <;> omega) | (simp <;> omega))) rfl ?_)
          (refine nx (aA (gN rfl) rfl rfl rfl rfl rfl) rfl ?_)
          refine ⟨hkl, wk_sub ⟨rfl, rfl, ?_, rfl, rfl, trivial⟩⟩
          show some (AV.own (.lst _) _) = some (AV.own (.lst _) _)
          rw [gsK_succ, if_pos (hgI.trans hg), List.map_append]
          rfl
        · have hg : gstL c x = false := hg
          refine aK ?_
          show AWp _ _ _ _ _ _ _
          refine aR ?_
          (refine nx (aM (gN rfl) rfl rfl rfl rfl rfl) rfl ?_)
          (refine nx (a_add (gN rfl) rfl rfl rfl rfl rfl rfl (by first | omega | (simp only [List.length_map, List.length_append, List.length_cons, List.length_nil] <;> omega) | (simp <;> omega))) rfl ?_)
          (refine nx (aA (gN rfl) rfl rfl rfl rfl rfl) rfl ?_)
          refine ⟨hkl, wk_sub ⟨rfl, rfl, ?_, rfl, rfl, trivial⟩⟩
          show some (AV.own (.lst _) _) = some (AV.own (.lst _) _)
          rw [gsK_succ, if_neg (by rw [hgI, hg]; decide), List.append_nil]
      · have hkl : k = c.length := by
          have : ¬ k < c.length := by simpa using hlt
          omega
        subst hkl
        refine aE ?_
        show AWp _ _ _ _ _ _ _
        refine aS (aR ?_)
        (refine nx (aM (gN rfl) rfl rfl rfl rfl rfl) rfl ?_)
        (refine nx (aA (gN rfl) rfl rfl rfl rfl rfl) rfl ?_)
        show AWp _ _ _ _ _ _ _
        exact aT (And.intro (.inr rfl) rfl)
    · -- the first one of the greatest weight
      have hMx : M = wtL x := by rw [hM, h1]
      have hMp : M > 0 := by rw [hMx]; exact wtL_pos x
      have g0 : decide (M > 0) = true := decide_eq_true hMp
      have g1 : decide (M = 0) = false := decide_eq_false (by omega)
      have hlk : lokL c = [(p : Int)] := by unfold lokL; rw [h1, if_pos (by simp)]
      rw [hlk]
      let st2 : Nat → AS := fun k => [(0, .val (.lst (c.map Lt.cv))), (3, .val (.i M)), (6, .val (.i k))]
      refine aB (awp_countI p (fun _ => True) st2 (wk_sub ⟨rfl, rfl, rfl, trivial⟩) trivial ?_)
      intro k hk _
      have hkl : k < c.length := by omega
      have g2 : decide ((k : Int) < ((c.map Lt.cv).length : Int)) = true := decide_eq_true (by rw [List.length_map]; omega)
      obtain ⟨y, hy⟩ : ∃ y, c[k]? = some y := ⟨c[k], List.getElem?_eq_getElem hkl⟩
      have hy' := Lt.map_at hy
      have hyf := hc y (List.mem_of_getElem? hy)
      refine aS (aS (aR ?_))
      (refine nx (aM (gN rfl) rfl rfl rfl rfl rfl) rfl ?_)
      (refine nx (aM (gN rfl) rfl rfl rfl rfl rfl) rfl ?_)
      (refine nx (a_len (gN rfl) rfl rfl rfl rfl rfl rfl rfl) rfl ?_)
      (refine nx (a_lss (gN rfl) rfl rfl rfl rfl rfl rfl) rfl ?_)
      show AWp _ _ _ _ _ _ _
      refine aC rfl (fun _ => ?_) (fun h => by have h : decide ((k : Int) < ((c.map Lt.cv).length : Int)) = false := h; rw [g2] at h; cases h)
      refine aK ?_
      show AWp _ _ _ _ _ _ _
      refine aS (aB (aS ?_))
      have hend : y.neg = true → wtL y = M → p ≤ k := fun hyn hyw => by
        rcases Nat.lt_or_ge k p with hlt | hge
        · have := h3 k y hlt hy hyn; omega
        · exact hge
      cases hyn : y.neg with
      | false =>
        have hkp : k < p := by
          rcases Nat.lt_or_ge k p with hlt | hge
          · exact hlt
          · have : k = p := by omega
            subst this
            rw [hx] at hy; cases hy
            rw [hxn] at hyn; cases hyn
        refine aS (aR ?_)
        (refine nx (aM (gN rfl) rfl rfl rfl rfl rfl) rfl ?_)
        (refine nx (a_gtr (gN rfl) rfl rfl rfl rfl rfl rfl) rfl ?_)
        (refine nx (aM (gN rfl) rfl rfl rfl rfl rfl) rfl ?_)
        (refine nx (aM (gd_on rfl rfl rfl rfl (by first | rfl | assumption | (simp; done))) rfl rfl rfl rfl rfl) rfl ?_)
        (refine nx (aM (gd_on rfl rfl rfl rfl (by first | rfl | assumption | (simp; done))) rfl rfl rfl rfl rfl) rfl ?_)
        (refine nx (a_index (j := k) (gd_on rfl rfl rfl rfl (by first | rfl | assumption | (simp; done))) rfl rfl rfl rfl rfl rfl rfl rfl rfl (hy') rfl (hsz)) rfl ?_)
        (refine nx (a_field_ad (gd_on rfl rfl rfl rfl (by first | rfl | assumption | (simp; done))) rfl rfl rfl rfl rfl rfl rfl rfl rfl rfl rfl) rfl ?_)
        (refine nx (a_load_ad (gd_on rfl rfl rfl rfl (by first | rfl | assumption | (simp; done))) rfl rfl rfl rfl rfl rfl rfl rfl rfl) rfl ?_)
        (refine ⟨_, _, _, aPt (gN rfl) rfl rfl rfl rfl rfl ?hb rfl, rfl, ?_⟩; case hb => (first | rfl | assumption | (simp; done)))
        (refine nx (aM (gN rfl) rfl rfl rfl rfl rfl) rfl ?_)
        (refine ⟨_, _, _, a_off (go_off rfl rfl rfl rfl (by first | rfl | assumption | (simp; done) | (simp [*]; done))) rfl rfl rfl, rfl, ?_⟩)
        (refine ⟨_, _, _, a_off (go_off rfl rfl rfl rfl (by first | rfl | assumption | (simp; done) | (simp [*]; done))) rfl rfl rfl, rfl, ?_⟩)
        (refine ⟨_, _, _, a_off (go_off rfl rfl rfl rfl (by first | rfl | assumption | (simp; done) | (simp [*]; done))) rfl rfl rfl, rfl, ?_⟩)
        (refine ⟨_, _, _, a_off (go_off rfl rfl rfl rfl (by first | rfl | assumption | (simp; done) | (simp [*]; done))) rfl rfl rfl, rfl, ?_⟩)
        (refine ⟨_, _, _, a_off (go_off rfl rfl rfl rfl (by first | rfl | assumption | (simp; done) | (simp [*]; done))) rfl rfl rfl, rfl, ?_⟩)
        (refine ⟨_, _, _, a_off (go_off rfl rfl rfl rfl (by first | rfl | assumption | (simp; done) | (simp [*]; done))) rfl rfl rfl, rfl, ?_⟩)
        (refine ⟨_, _, _, a_off (go_off rfl rfl rfl rfl (by first | rfl | assumption | (simp; done) | (simp [*]; done))) rfl rfl rfl, rfl, ?_⟩)
        (refine ⟨_, _, _, aPf (gN rfl) rfl rfl rfl rfl rfl ?hb rfl, rfl, ?_⟩; case hb => (first | rfl | assumption | (simp; done)))
        show AWp _ _ _ _ _ _ _
        refine aC rfl (fun h => by cases h) (fun _ => ?_)
        refine aK ?_
        show AWp _ _ _ _ _ _ _
        refine aS (aR ?_)
        (refine nx (aM (gN rfl) rfl rfl rfl rfl rfl) rfl ?_)
        (refine nx (a_eql (gN rfl) rfl rfl rfl rfl rfl rfl) rfl ?_)
        (refine nx (aM (gN rfl) rfl rfl rfl rfl rfl) rfl ?_)
        (refine ⟨_, _, _, a_off (go_off rfl rfl rfl rfl (by first | rfl | assumption | (simp; done) | (simp [*]; done))) rfl rfl rfl, rfl, ?_⟩)
        (refine ⟨_, _, _, a_off (go_off rfl rfl rfl rfl (by first | rfl | assumption | (simp; done) | (simp [*]; done))) rfl rfl rfl, rfl, ?_⟩)
        (refine ⟨_, _, _, a_off (go_off rfl rfl rfl rfl (by first | rfl | assumption | (simp; done) | (simp [*]; done))) rfl rfl rfl, rfl, ?_⟩)
        (refine ⟨_, _, _, aPf (gN rfl) rfl rfl rfl rfl rfl ?hb rfl, rfl, ?_⟩; case hb => (first | rfl | assumption | (simp; done)))
        show AWp _ _ _ _ _ _ _
        refine aC rfl (fun h => by cases h) (fun _ => ?_)
        refine aK ?_
        show AWp _ _ _ _ _ _ _
        refine aR ?_
        (refine nx (aM (gN rfl) rfl rfl rfl rfl rfl) rfl ?_)
        (refine nx (a_add (gN rfl) rfl rfl rfl rfl rfl rfl (by first | omega | (simp only [List.length_map, List.length_append, List.length_cons, List.length_nil] <;> omega) | (simp <;> omega))) rfl ?_)
        (refine nx (aA (gN rfl) rfl rfl rfl rfl rfl) rfl ?_)
        exact ⟨hkp, trivial, wk_sub ⟨rfl, rfl, rfl, trivial⟩⟩
      | true =>
        refine aS (aR ?_)
        (refine nx (aM (gN rfl) rfl rfl rfl rfl rfl) rfl ?_)
        (refine nx (a_gtr (gN rfl) rfl rfl rfl rfl rfl rfl) rfl ?_)
        (refine nx (aM (gN rfl) rfl rfl rfl rfl rfl) rfl ?_)
        (refine nx (aM (gd_on rfl rfl rfl rfl (by first | rfl | assumption | (simp; done))) rfl rfl rfl rfl rfl) rfl ?_)
        (refine nx (aM (gd_on rfl rfl rfl rfl (by first | rfl | assumption | (simp; done))) rfl rfl rfl rfl rfl) rfl ?_)
        (refine nx (a_index (j := k) (gd_on rfl rfl rfl rfl (by first | rfl | assumption | (simp; done))) rfl rfl rfl rfl rfl rfl rfl rfl rfl (hy') rfl (hsz)) rfl ?_)
        (refine nx (a_field_ad (gd_on rfl rfl rfl rfl (by first | rfl | assumption | (simp; done))) rfl rfl rfl rfl rfl rfl rfl rfl rfl rfl rfl) rfl ?_)
        (refine nx (a_load_ad (gd_on rfl rfl rfl rfl (by first | rfl | assumption | (simp; done))) rfl rfl rfl rfl rfl rfl rfl rfl rfl) rfl ?_)
        (refine ⟨_, _, _, aPt (gN rfl) rfl rfl rfl rfl rfl ?hb rfl, rfl, ?_⟩; case hb => (first | rfl | assumption | (simp; done)))
        (refine nx (aM (gN rfl) rfl rfl rfl rfl rfl) rfl ?_)
        (refine nx (aM (gd_on rfl rfl rfl rfl (by first | rfl | assumption | (simp; done))) rfl rfl rfl rfl rfl) rfl ?_)
        (refine nx (aM (gd_on rfl rfl rfl rfl (by first | rfl | assumption | (simp; done))) rfl rfl rfl rfl rfl) rfl ?_)
        (refine nx (a_index (j := k) (gd_on rfl rfl rfl rfl (by first | rfl | assumption | (simp; done))) rfl rfl rfl rfl rfl rfl rfl rfl rfl (hy') rfl (hsz)) rfl ?_)
        (refine nx (a_load_ad (gd_on rfl rfl rfl rfl (by first | rfl | assumption | (simp; done))) rfl rfl rfl rfl rfl rfl rfl rfl rfl) rfl ?_)
        (refine nx (a_call (gd_on rfl rfl rfl rfl (by first | rfl | assumption | (simp; done))) rfl rfl rfl rfl rfl (rWt14_abs w y hyf)) rfl ?_)
        (refine nx (aM (gd_on rfl rfl rfl rfl (by first | rfl | assumption | (simp; done))) rfl rfl rfl rfl rfl) rfl ?_)
        (refine nx (a_eql (gd_on rfl rfl rfl rfl (by first | rfl | assumption | (simp; done))) rfl rfl rfl rfl rfl rfl) rfl ?_)
        (refine ⟨_, _, _, aPt (gN rfl) rfl rfl rfl rfl rfl ?hb rfl, rfl, ?_⟩; case hb => (first | rfl | assumption | (simp; done)))
        show AWp _ _ _ _ _ _ _
        refine aC rfl (fun hg => ?_) (fun hg => ?_)
        · have hg : decide (wtL y = M) = true := hg
          have hkp : k = p := by have := hend hyn (of_decide_eq_true hg); omega
          subst hkp
          refine aS (aR ?_)
          (refine nx (aM (gN rfl) rfl rfl rfl rfl rfl) rfl ?_)
          (refine nx (a_bslice (gN rfl) rfl rfl rfl rfl rfl rfl rfl rfl rfl rfl rfl rfl rfl) rfl ?_)
          (refine nx (aA (gN rfl) rfl rfl rfl rfl rfl) rfl ?_)
          show AWp _ _ _ _ _ _ _
          exact aT (And.intro (.inr rfl) rfl)
        · have hg : decide (wtL y = M) = false := hg
          have hkp : k < p := by
            rcases Nat.lt_or_ge k p with hlt | hge
            · exact hlt
            · have : k = p := by omega
              subst this
              rw [hx] at hy; cases hy
              exact absurd hMx.symm (of_decide_eq_false hg)
          refine aK ?_
          show AWp _ _ _ _ _ _ _
          refine aS (aR ?_)
          (refine nx (aM (gN rfl) rfl rfl rfl rfl rfl) rfl ?_)
          (refine nx (a_eql (gN rfl) rfl rfl rfl rfl rfl rfl) rfl ?_)
          (refine nx (aM (gN rfl) rfl rfl rfl rfl rfl) rfl ?_)
          (refine ⟨_, _, _, a_off (go_off rfl rfl rfl rfl (by first | rfl | assumption | (simp; done) | (simp [*]; done))) rfl rfl rfl, rfl, ?_⟩)
          (refine ⟨_, _, _, a_off (go_off rfl rfl rfl rfl (by first | rfl | assumption | (simp; done) | (simp [*]; done))) rfl rfl rfl, rfl, ?_⟩)
          (refine ⟨_, _, _, a_off (go_off rfl rfl rfl rfl (by first | rfl | assumption | (simp; done) | (simp [*]; done))) rfl rfl rfl, rfl, ?_⟩)
          (refine ⟨_, _, _, aPf (gN rfl) rfl rfl rfl rfl rfl ?hb rfl, rfl, ?_⟩; case hb => (first | rfl | assumption | (simp; done)))
          show AWp _ _ _ _ _ _ _
          refine aC rfl (fun h => by cases h) (fun _ => ?_)
          refine aK ?_
          show AWp _ _ _ _ _ _ _
          refine aR ?_
          (refine nx (aM (gN rfl) rfl rfl rfl rfl rfl) rfl ?_)
          (refine nx (a_add (gN rfl) rfl rfl rfl rfl rfl rfl (by first | omega | (simp only [List.length_map, List.length_append, List.length_cons, List.length_nil] <;> omega) | (simp <;> omega))) rfl ?_)
          (refine nx (aA (gN rfl) rfl rfl rfl rfl rfl) rfl ?_)
          exact ⟨hkp, trivial, wk_sub ⟨rfl, rfl, rfl, trivial⟩⟩
noncomputable def orD (l : Lt) : List (Tm × Tm) := (if kb l.a l.b > 0 then [(l.a, l.b)] else []) ++ (if kb l.a l.b = -1 ∨ kb l.a l.b = 2 then [(l.b, l.a)] else [])
noncomputable def prL (p : Tm × Tm) : CV := .lst [p.1.cw, p.2.cw]
theorem int_at {x : List Int} {k : Nat} {z : Int} (h : x[k]? = some z) : (x.map CV.i)[k]? = some (.i z) := by rw [List.getElem?_map, h]; rfl
def al1 : Lt := ⟨false, ⟨1, []⟩, ⟨0, []⟩⟩
def al2 : Lt := ⟨true, ⟨2, []⟩, ⟨0, []⟩⟩
end Go.Proofs.YtglmoficcjphaaaGreat
namespace Go.Proofs.YtglmoficcjphaaaGreat
open Go.RowKit
set_option linter.unusedVariables false
set_option linter.unusedSimpArgs false
theorem lok_len (c : List Lt) : (lokL c).length ≤ c.length + 1 := by
  unfold lokL
  split
  · simp
  · have := gsK_len c c.length; omega
end Go.Proofs.YtglmoficcjphaaaGreat
namespace Go.Proofs.YtglmoficcjphaaaGreat
open Go.RowKit
set_option linter.unusedVariables false
set_option linter.unusedSimpArgs false
set_option maxRecDepth 100000
theorem hvK_at (c : List Lt) : ∀ k : Nat, -1 ≤ (hvK c k).1 ∧ (hvK c k).1 < k
  | 0 => ⟨by show (-1 : Int) ≤ -1; omega, by show (-1 : Int) < _; omega⟩
  | k + 1 => by
    obtain ⟨h1, h2⟩ := hvK_at c k
    unfold hvK
    split
    · omega
    · split
      · simp only; omega
      · omega
theorem lok_at {c : List Lt} {z : Int} (h : z ∈ lokL c) : 0 ≤ z ∧ z < c.length := by
  unfold lokL at h
  split at h
  · rw [List.mem_singleton] at h
    have := hvK_at c c.length
    omega
  · unfold gsK at h
    obtain ⟨i, hi, rfl⟩ := List.mem_map.1 h
    have := List.mem_range.1 (List.mem_filter.1 hi).1
    omega
theorem ten_fits {c : List Lt} (h : ∀ l ∈ c, l.ten) : ∀ l ∈ c, l.fit := fun l hl => ⟨⟨(h l hl).1.1.1, (h l hl).1.1.2, by have := (h l hl).1.2; omega⟩, (h l hl).2.1.1, (h l hl).2.1.2, by have := (h l hl).2.2; omega⟩
noncomputable def resK (c : List Lt) (L : List Int) (k : Nat) : List (List Lt) := (L.take k).filterMap fun z => resC c z.toNat
theorem resK_len (c : List Lt) (L : List Int) (k : Nat) : (resK c L k).length ≤ L.length := by
  unfold resK
  exact Nat.le_trans (List.length_filterMap_le _ _) (by rw [List.length_take]; omega)
theorem resK_succ {c : List Lt} {L : List Int} {k : Nat} {n : Nat} (h : L[k]? = some (n : Int)) : resK c L (k + 1) = resK c L k ++ (resC c n).toList := by
  unfold resK
  rw [List.take_add_one, h, List.filterMap_append]
  congr 1
theorem ten_off {c : List Lt} (h : ∀ l ∈ c, l.ten) (n : Nat) : ∀ l ∈ offL c n, l.ten := fun l hl => h l (offL_mem hl)
-- 
set_option maxHeartbeats 4000000 in
theorem eRes_abs (W : World) (c : List Lt) (hl : c.length ≤ 100) (hc : ∀ l ∈ c, l.ten) : AFun Tryz.prog W 12 [.lst (c.map Lt.cv)] (.val (.lst ((resA1 c).map clC))) := by
  have hsz := Lt.size_all c
  have hLk := fun w => oLook_abs w c (by omega) (ten_fits hc)
  have hLat : ∀ z ∈ lokL c, 0 ≤ z ∧ z < c.length := fun z hz => lok_at hz
  have hLl : (lokL c).length ≤ 101 := by have := lok_len c; omega
  have hres : resA1 c = resK c (lokL c) (lokL c).length := by unfold resA1 resK; rw [List.take_length]
  rw [hres]
  obtain ⟨L, hL⟩ : ∃ L, L = lokL c := ⟨_, rfl⟩
  rw [← hL] at hLk hLat hLl ⊢
  have hszL := ints_size L
  refine afun_of (rs := [.lst ((resK c L L.length).map clC)]) Tryz.func12 Tryz.ntmps12 rfl rfl rfl rfl ?_
  intro w U hW
  refine aS (aR ?_)
  (refine nx (aA (gN rfl) rfl rfl rfl rfl rfl) rfl ?_)
  show AWp _ _ _ _ _ _ _
  refine aS (aR ?_)
  (refine nx (aA (gN rfl) rfl rfl rfl rfl rfl) rfl ?_)
  show AWp _ _ _ _ _ _ _
  refine aS (aS (aR ?_))
  (refine nx (aM (gN rfl) rfl rfl rfl rfl rfl) rfl ?_)
  (refine nx (a_call (gN rfl) rfl rfl rfl rfl rfl (hLk w)) rfl ?_)
  (refine nx (a_len (gN rfl) rfl rfl rfl rfl rfl rfl rfl) rfl ?_)
  (refine nx (aM (gN rfl) rfl rfl rfl rfl rfl) rfl ?_)
  show AWp _ _ _ _ _ _ _
  let st : Nat → AS := fun k => [(0, .val (.lst (c.map Lt.cv))), (3, .own (.lst ((resK c L k).map clC)) 200043), (200043, .tok 26 1), (9, .val (.lst (L.map CV.i))), (10, .val (.i (L.map CV.i).length)), (11, .val (.i k))]
  refine aB (awp_count L.length st ((wk_nil 3 200043 26 1 rfl rfl rfl rfl rfl rfl rfl).trans (wk_sub ⟨rfl, rfl, rfl, rfl, rfl, rfl, trivial⟩)) ?_)
  intro k hk
  refine aS (aR ?_)
  (refine nx (a_lss (gN rfl) rfl rfl rfl rfl rfl rfl) rfl ?_)
  show AWp _ _ _ _ _ _ _
  refine aS (aC rfl (fun hlt => ?_) (fun hlt => ?_))
  · have hkl : k < L.length := by simpa using hlt
    obtain ⟨z, hz⟩ : ∃ z, L[k]? = some z := ⟨L[k], List.getElem?_eq_getElem hkl⟩
    obtain ⟨hz0, hz1⟩ := hLat z (List.mem_of_getElem? hz)
    obtain ⟨n, rfl⟩ : ∃ n : Nat, z = (n : Int) := ⟨z.toNat, by omega⟩
    have hz' := int_at hz
    have hn : n < c.length := by omega
    obtain ⟨x, hx⟩ : ∃ x, c[n]? = some x := ⟨c[n], List.getElem?_eq_getElem hn⟩
    have hx' := Lt.map_at hx
    have hxt := hc x (List.mem_of_getElem? hx)
    have hS := resK_succ (c := c) hz
    have hrc : resC c n = if x.neg = true ∧ (mgT x.a x.b).2 = true then some ((offL c n).map (Lt.rep (mgS x.a x.b))) else none := by unfold resC; rw [hx]
    have hlen3 := resK_len c L k
    have hlen4 : ((resK c L k).map clC).length ≤ 101 := by rw [List.length_map]; omega
    have hsz3 := clC_size (resK c L k)
    refine aK ?_
    show AWp _ _ _ _ _ _ _
    refine aS (aB (aS (aR ?_)))
    (refine nx (a_index (j := k) (gN rfl) rfl rfl rfl rfl rfl rfl rfl rfl rfl (hz') rfl (hszL)) rfl ?_)
    (refine nx (a_load_ad (gN rfl) rfl rfl rfl rfl rfl rfl rfl rfl rfl) rfl ?_)
    (refine nx (aA (gN rfl) rfl rfl rfl rfl rfl) rfl ?_)
    show AWp _ _ _ _ _ _ _
    refine aS (aS (aR ?_))
    (refine nx (aM (gN rfl) rfl rfl rfl rfl rfl) rfl ?_)
    (refine nx (aM (gN rfl) rfl rfl rfl rfl rfl) rfl ?_)
    (refine nx (a_index (j := n) (gN rfl) rfl rfl rfl rfl rfl rfl rfl rfl rfl (hx') rfl (hsz)) rfl ?_)
    (refine nx (a_field_ad (gN rfl) rfl rfl rfl rfl rfl rfl rfl rfl rfl rfl rfl) rfl ?_)
    (refine nx (a_load_ad (gN rfl) rfl rfl rfl rfl rfl rfl rfl rfl rfl) rfl ?_)
    (refine nx (a_not (gN rfl) rfl rfl rfl rfl rfl) rfl ?_)
    show AWp _ _ _ _ _ _ _
    refine aC rfl (fun hb => ?_) (fun hb => ?_)
    · have hb : (!x.neg) = true := hb
      have hng : x.neg = false := by simpa using hb
      have e : resK c L (k + 1) = resK c L k := by rw [hS, hrc, if_neg (by rw [hng]; rintro ⟨h, _⟩; cases h)]; simp
      refine aE ?_
      show AWp _ _ _ _ _ _ _
      refine aR ?_
      (refine nx (a_add (gN rfl) rfl rfl rfl rfl rfl rfl (by first | omega | (simp only [List.length_map, List.length_append, List.length_cons, List.length_nil] <;> omega) | (simp <;> omega))) rfl ?_)
      (refine nx (aM (gN rfl) rfl rfl rfl rfl rfl) rfl ?_)
      refine ⟨hkl, wk_sub ⟨rfl, ?_, rfl, rfl, rfl, rfl, trivial⟩⟩
      rw [e]; rfl
    · have hb : (!x.neg) = false := hb
      have hng : x.neg = true := by simpa using hb
      refine aK ?_
      show AWp _ _ _ _ _ _ _
      refine aS (aD (by kernel_rfl) (by kernel_rfl) ?_)
      (refine nx (aM (gN rfl) rfl rfl rfl rfl rfl) rfl ?_)
      (refine nx (aM (gN rfl) rfl rfl rfl rfl rfl) rfl ?_)
      (refine nx (a_index (j := n) (gN rfl) rfl rfl rfl rfl rfl rfl rfl rfl rfl (hx') rfl (hsz)) rfl ?_)
      (refine nx (a_field_ad (gN rfl) rfl rfl rfl rfl rfl rfl rfl rfl rfl rfl rfl) rfl ?_)
      (refine nx (a_load_ad (gN rfl) rfl rfl rfl rfl rfl rfl rfl rfl rfl) rfl ?_)
      (refine nx (aM (gN rfl) rfl rfl rfl rfl rfl) rfl ?_)
      (refine nx (aM (gN rfl) rfl rfl rfl rfl rfl) rfl ?_)
      (refine nx (a_index (j := n) (gN rfl) rfl rfl rfl rfl rfl rfl rfl rfl rfl (hx') rfl (hsz)) rfl ?_)
      (refine nx (a_field_ad (gN rfl) rfl rfl rfl rfl rfl rfl rfl rfl rfl rfl rfl) rfl ?_)
      (refine nx (a_load_ad (gN rfl) rfl rfl rfl rfl rfl rfl rfl rfl rfl) rfl ?_)
      (refine nx (a_call (gN rfl) rfl rfl rfl rfl rfl (eUnify_abs w hxt.1 hxt.2)) rfl ?_)
      (refine nx (aM (gN rfl) rfl rfl rfl rfl rfl) rfl ?_)
      (refine nx (aX (gN rfl) rfl rfl rfl rfl rfl rfl) rfl ?_)
      (refine nx (aX (gN rfl) rfl rfl rfl rfl rfl rfl) rfl ?_)
      (refine nx (aA (gN rfl) rfl rfl rfl rfl rfl) rfl ?_)
      (refine nx (aA (gN rfl) rfl rfl rfl rfl rfl) rfl ?_)
      refine ⟨by kernel_rfl, ?_⟩
      show AWp _ _ _ _ _ _ _
      obtain ⟨ok, hok⟩ : ∃ ok, ok = (mgT x.a x.b).2 := ⟨_, rfl⟩
      rw [← hok] at hrc
      refine aS (aR ?_)
      (refine nx (aM (gN rfl) rfl rfl rfl rfl rfl) rfl ?_)
      show AWp _ _ _ _ _ _ _
      refine AWp.wk (wk_sub (s' := [(0, .val (.lst (c.map Lt.cv))), (3, .own (.lst ((resK c L k).map clC)) 200043), (200043, .tok 26 1), (9, .val (.lst (L.map CV.i))), (10, .val (.i (L.map CV.i).length)), (11, .val (.i k)), (5, .val (.i (n : Int))), (6, .val (.lst ((mgT x.a x.b).1.map Bd.cv))), (35, .val (.b ok))]) ⟨rfl, rfl, rfl, rfl, rfl, rfl, rfl, rfl, by rw [hok]; rfl, trivial⟩) ?_
      cases ok with
      | false =>
        have e : resK c L (k + 1) = resK c L k := by rw [hS, hrc, if_neg (by rintro ⟨_, h⟩; cases h)]; simp
        refine aC rfl (fun h => by cases h) (fun _ => aK ?_)
        show AWp _ _ _ _ _ _ _
        refine aR ?_
        (refine nx (a_add (gN rfl) rfl rfl rfl rfl rfl rfl (by first | omega | (simp only [List.length_map, List.length_append, List.length_cons, List.length_nil] <;> omega) | (simp <;> omega))) rfl ?_)
        (refine nx (aM (gN rfl) rfl rfl rfl rfl rfl) rfl ?_)
        refine ⟨hkl, wk_sub ⟨rfl, ?_, rfl, rfl, rfl, rfl, trivial⟩⟩
        rw [e]; rfl
      | true =>
        have e : resK c L (k + 1) = resK c L k ++ [(offL c n).map (Lt.rep (mgS x.a x.b))] := by rw [hS, hrc, if_pos ⟨hng, rfl⟩]; rfl
        have hol := offL_len hn
        refine aC rfl (fun _ => ?_) (fun h => by cases h)
        refine aR ?_
        (refine nx (aM (gN rfl) rfl rfl rfl rfl rfl) rfl ?_)
        (refine nx (aM (gN rfl) rfl rfl rfl rfl rfl) rfl ?_)
        (refine nx (aM (gN rfl) rfl rfl rfl rfl rfl) rfl ?_)
        (refine nx (aM (gN rfl) rfl rfl rfl rfl rfl) rfl ?_)
        (refine nx (a_call (gN rfl) rfl rfl rfl rfl rfl (eOthers_abs w c n hn (by omega))) rfl ?_)
        (refine nx (a_call (gN rfl) rfl rfl rfl rfl rfl (eApply_abs w hxt.1 hxt.2 (offL c n) (by omega) (ten_fit (ten_off hc n)))) rfl ?_)
        (refine nx (a_bslice (gN rfl) rfl rfl rfl rfl rfl rfl rfl rfl rfl rfl rfl rfl rfl) rfl ?_)
        (refine nx (a_app (gN rfl) rfl rfl rfl rfl rfl rfl rfl rfl rfl rfl rfl rfl rfl rfl rfl (by first | assumption | exact sZ rfl | exact Tm.size_all _ | exact Bd.size_all _ | exact ints_size _ | exact bys_size _ | exact Lt.size_all _) (by first | assumption | exact sZ rfl | exact Tm.size_all _ | exact Bd.size_all _ | exact ints_size _ | exact bys_size _ | exact Lt.size_all _) (by first | omega | (simp only [List.length_map, List.length_append, List.length_cons, List.length_nil] <;> omega) | (simp <;> omega))) rfl ?_)
        (refine nx (aA (gN rfl) rfl rfl rfl rfl rfl) rfl ?_)
        show AWp _ _ _ _ _ _ _
        refine aR ?_
        (refine nx (a_add (gN rfl) rfl rfl rfl rfl rfl rfl (by first | omega | (simp only [List.length_map, List.length_append, List.length_cons, List.length_nil] <;> omega) | (simp <;> omega))) rfl ?_)
        (refine nx (aM (gN rfl) rfl rfl rfl rfl rfl) rfl ?_)
        refine ⟨hkl, (wk_sub (s' := [(0, .val (.lst (c.map Lt.cv))), (3, .own (.lst ((resK c L (k + 1)).map clC)) 300043), (300043, .tok 26 1), (9, .val (.lst (L.map CV.i))), (10, .val (.i (L.map CV.i).length)), (11, .val (.i ((k + 1 : Nat) : Int)))]) ⟨rfl, ?_, rfl, rfl, rfl, rfl, trivial⟩).trans (wk_ren 300043 200043 rfl rfl rfl rfl)⟩
        show some (AV.own (.lst _) _) = some (AV.own (.lst _) _)
        rw [e, List.map_append (f := clC)]
        rfl
  · have hkl : k = L.length := by
      have : ¬ k < L.length := by simpa using hlt
      omega
    subst hkl
    refine aE ?_
    show AWp _ _ _ _ _ _ _
    refine aS (aR ?_)
    (refine nx (aM (gN rfl) rfl rfl rfl rfl rfl) rfl ?_)
    (refine nx (aA (gN rfl) rfl rfl rfl rfl rfl) rfl ?_)
    show AWp _ _ _ _ _ _ _
    exact aT (And.intro (.inr rfl) rfl)
noncomputable def facK (c : List Lt) (L : List Int) (k : Nat) : List (List Lt) := (L.take k).flatMap fun z => facL c z.toNat
theorem facK_succ {c : List Lt} {L : List Int} {k : Nat} {n : Nat} (h : L[k]? = some (n : Int)) : facK c L (k + 1) = facK c L k ++ facL c n := by
  unfold facK
  rw [List.take_add_one, h, List.flatMap_append]
  simp
noncomputable def facM (c : List Lt) (l : Lt) (n m : Nat) : List (List Lt) := (List.range m).flatMap fun j => facN c l n j
theorem facM_succ (c : List Lt) (l : Lt) (n m : Nat) : facM c l n (m + 1) = facM c l n m ++ facN c l n m := by
  unfold facM
  rw [List.range_succ, List.flatMap_append]
  simp
theorem facN_len (c : List Lt) (l : Lt) (n m : Nat) : (facN c l n m).length ≤ 4 := by
  unfold facN
  split
  · split
    · exact facO_len _ _ _
    · exact Nat.zero_le _
  · exact Nat.zero_le _
theorem facM_len (c : List Lt) (l : Lt) (n : Nat) : ∀ m, (facM c l n m).length ≤ 4 * m
  | 0 => Nat.le_refl _
  | m + 1 => by
    have h1 := facM_len c l n m
    have h2 := facN_len c l n m
    rw [facM_succ, List.length_append]
    omega
theorem facL_len (c : List Lt) (n : Nat) : (facL c n).length ≤ 4 * c.length := by
  unfold facL
  split
  · split
    · exact Nat.zero_le _
    · exact facM_len c _ n c.length
  · exact Nat.zero_le _
theorem facK_len (c : List Lt) : ∀ (L : List Int) (k : Nat), (facK c L k).length ≤ 4 * c.length * k
  | L, 0 => by simp [facK]
  | [], k + 1 => by simp [facK]
  | z :: L, k + 1 => by
    have h1 := facK_len c L k
    have h2 := facL_len c z.toNat
    have e : facK c (z :: L) (k + 1) = facL c z.toNat ++ facK c L k := by unfold facK; rw [List.take_succ_cons, List.flatMap_cons]
    rw [e, List.length_append, Nat.mul_add, Nat.mul_one]
    omega
-- 
set_option maxHeartbeats 8000000 in
theorem eFactor_abs (W : World) (c : List Lt) (hl : c.length ≤ 100) (hc : ∀ l ∈ c, l.ten) : AFun Tryz.prog W 14 [.lst (c.map Lt.cv)] (.val (.lst ((facA c).map clC))) := by
  have hsz := Lt.size_all c
  have hLk := fun w => oLook_abs w c (by omega) (ten_fits hc)
  have hLat : ∀ z ∈ lokL c, 0 ≤ z ∧ z < c.length := fun z hz => lok_at hz
  have hLl : (lokL c).length ≤ 101 := by have := lok_len c; omega
  have hres : facA c = facK c (lokL c) (lokL c).length := by unfold facA facK; rw [List.take_length]
  rw [hres]
  obtain ⟨L, hL⟩ : ∃ L, L = lokL c := ⟨_, rfl⟩
  rw [← hL] at hLk hLat hLl ⊢
  have hszL := ints_size L
  have hclm : (c.map Lt.cv).length = c.length := List.length_map ..
  refine afun_of (rs := [.lst ((facK c L L.length).map clC)]) Tryz.func14 Tryz.ntmps14 rfl rfl rfl rfl ?_
  intro w U hW
  refine aS (aR ?_)
  (refine nx (aA (gN rfl) rfl rfl rfl rfl rfl) rfl ?_)
  show AWp _ _ _ _ _ _ _
  refine aS (aR ?_)
  (refine nx (aA (gN rfl) rfl rfl rfl rfl rfl) rfl ?_)
  show AWp _ _ _ _ _ _ _
  refine aS (aS (aR ?_))
  (refine nx (aM (gN rfl) rfl rfl rfl rfl rfl) rfl ?_)
  (refine nx (a_call (gN rfl) rfl rfl rfl rfl rfl (hLk w)) rfl ?_)
  (refine nx (a_len (gN rfl) rfl rfl rfl rfl rfl rfl rfl) rfl ?_)
  (refine nx (aM (gN rfl) rfl rfl rfl rfl rfl) rfl ?_)
  show AWp _ _ _ _ _ _ _
  let st : Nat → AS := fun k => [(0, .val (.lst (c.map Lt.cv))), (3, .own (.lst ((facK c L k).map clC)) 200047), (200047, .tok 26 1), (10, .val (.lst (L.map CV.i))), (11, .val (.i (L.map CV.i).length)), (12, .val (.i k))]
  refine aB (awp_count L.length st ((wk_nil 3 200047 26 1 rfl rfl rfl rfl rfl rfl rfl).trans (wk_sub ⟨rfl, rfl, rfl, rfl, rfl, rfl, trivial⟩)) ?_)
  intro k hk
  refine aS (aR ?_)
  (refine nx (a_lss (gN rfl) rfl rfl rfl rfl rfl rfl) rfl ?_)
  show AWp _ _ _ _ _ _ _
  refine aS (aC rfl (fun hlt => ?_) (fun hlt => ?_))
  · have hkl : k < L.length := by simpa using hlt
    obtain ⟨z, hz⟩ : ∃ z, L[k]? = some z := ⟨L[k], List.getElem?_eq_getElem hkl⟩
    obtain ⟨hz0, hz1⟩ := hLat z (List.mem_of_getElem? hz)
    obtain ⟨n, rfl⟩ : ∃ n : Nat, z = (n : Int) := ⟨z.toNat, by omega⟩
    have hz' := int_at hz
    have hn : n < c.length := by omega
    obtain ⟨x, hx⟩ : ∃ x, c[n]? = some x := ⟨c[n], List.getElem?_eq_getElem hn⟩
    have hx' := Lt.map_at hx
    have hxt := hc x (List.mem_of_getElem? hx)
    have hS := facK_succ (c := c) hz
    have hfl : facL c n = if x.neg = true then [] else facM c x n c.length := by unfold facL facM; rw [hx]
    obtain ⟨A, hA⟩ : ∃ A, A = facK c L k := ⟨_, rfl⟩
    have hAl : A.length ≤ 40400 := by
      have h1 := facK_len c L k
      have h2 : 4 * c.length * k ≤ 400 * 101 := Nat.mul_le_mul (by omega) (by omega)
      rw [hA]; omega
    rw [← hA] at hS
    refine aK ?_
    show AWp _ _ _ _ _ _ _
    refine aS (aB (aS (aR ?_)))
    (refine nx (a_index (j := k) (gN rfl) rfl rfl rfl rfl rfl rfl rfl rfl rfl (hz') rfl (hszL)) rfl ?_)
    (refine nx (a_load_ad (gN rfl) rfl rfl rfl rfl rfl rfl rfl rfl rfl) rfl ?_)
    (refine nx (aA (gN rfl) rfl rfl rfl rfl rfl) rfl ?_)
    show AWp _ _ _ _ _ _ _
    refine aS (aS (aR ?_))
    (refine nx (aM (gN rfl) rfl rfl rfl rfl rfl) rfl ?_)
    (refine nx (aM (gN rfl) rfl rfl rfl rfl rfl) rfl ?_)
    (refine nx (a_index (j := n) (gN rfl) rfl rfl rfl rfl rfl rfl rfl rfl rfl (hx') rfl (hsz)) rfl ?_)
    (refine nx (a_field_ad (gN rfl) rfl rfl rfl rfl rfl rfl rfl rfl rfl rfl rfl) rfl ?_)
    (refine nx (a_load_ad (gN rfl) rfl rfl rfl rfl rfl rfl rfl rfl rfl) rfl ?_)
    show AWp _ _ _ _ _ _ _
    refine AWp.wk (wk_sub (s' := [(0, .val (.lst (c.map Lt.cv))), (3, .own (.lst (A.map clC)) 200047), (200047, .tok 26 1), (10, .val (.lst (L.map CV.i))), (11, .val (.i (L.map CV.i).length)), (12, .val (.i k)), (5, .val (.i (n : Int))), (20, .val (.b x.neg))]) ⟨rfl, by rw [hA]; rfl, rfl, rfl, rfl, rfl, rfl, rfl, trivial⟩) ?_
    refine aC rfl (fun hb => ?_) (fun hb => ?_)
    · have hb : x.neg = true := hb
      have e : facK c L (k + 1) = A := by rw [hS, hfl, if_pos hb, List.append_nil]
      refine aE ?_
      show AWp _ _ _ _ _ _ _
      refine aR ?_
      (refine nx (a_add (gN rfl) rfl rfl rfl rfl rfl rfl (by first | omega | (simp only [List.length_map, List.length_append, List.length_cons, List.length_nil] <;> omega) | (simp <;> omega))) rfl ?_)
      (refine nx (aM (gN rfl) rfl rfl rfl rfl rfl) rfl ?_)
      refine ⟨hkl, wk_sub ⟨rfl, ?_, rfl, rfl, rfl, rfl, trivial⟩⟩
      rw [e]; rfl
    · have hb : x.neg = false := hb
      have e : facK c L (k + 1) = A ++ facM c x n c.length := by rw [hS, hfl, if_neg (by rw [hb]; decide)]
      have hol := offL_len hn
      refine aK ?_
      show AWp _ _ _ _ _ _ _
      refine aS (aR ?_)
      (refine nx (aM (gN rfl) rfl rfl rfl rfl rfl) rfl ?_)
      (refine nx (aM (gN rfl) rfl rfl rfl rfl rfl) rfl ?_)
      (refine nx (a_call (gN rfl) rfl rfl rfl rfl rfl (eOthers_abs w c n hn (by omega))) rfl ?_)
      (refine nx (aA (gN rfl) rfl rfl rfl rfl rfl) rfl ?_)
      show AWp _ _ _ _ _ _ _
      refine aS (aR ?_)
      (refine nx (aM (gN rfl) rfl rfl rfl rfl rfl) rfl ?_)
      (refine nx (a_len (gN rfl) rfl rfl rfl rfl rfl rfl rfl) rfl ?_)
      (refine nx (aM (gN rfl) rfl rfl rfl rfl rfl) rfl ?_)
      show AWp _ _ _ _ _ _ _
      let st2 : Nat → AS := fun m => [(0, .val (.lst (c.map Lt.cv))), (3, .own (.lst ((A ++ facM c x n m).map clC)) 200047), (200047, .tok 26 1), (10, .val (.lst (L.map CV.i))), (11, .val (.i (L.map CV.i).length)), (12, .val (.i k)), (5, .val (.i (n : Int))), (6, .val (.lst ((offL c n).map Lt.cv))), (24, .val (.lst (c.map Lt.cv))), (25, .val (.i (c.map Lt.cv).length)), (26, .val (.i m))]
      refine aB (awp_count c.length st2 (wk_sub ⟨rfl, by show some (AV.own (.lst _) _) = some (AV.own (.lst _) _); rw [show facM c x n 0 = [] from rfl, List.append_nil], rfl, rfl, rfl, rfl, rfl, rfl, rfl, rfl, rfl, trivial⟩) ?_)
      intro m hm
      refine aS (aR ?_)
      (refine nx (a_lss (gN rfl) rfl rfl rfl rfl rfl rfl) rfl ?_)
      show AWp _ _ _ _ _ _ _
      refine aS (aC rfl (fun hlt2 => ?_) (fun hlt2 => ?_))
      · have hml : m < c.length := by simpa using hlt2
        obtain ⟨y, hy⟩ : ∃ y, c[m]? = some y := ⟨c[m], List.getElem?_eq_getElem hml⟩
        have hy' := Lt.map_at hy
        have hyt := hc y (List.mem_of_getElem? hy)
        have hMs := facM_succ c x n m
        have hfn : facN c x n m = if m ≠ n ∧ y.neg = false then facO (wayL x) y (offL c n) else [] := by unfold facN; rw [hy]
        obtain ⟨B, hB⟩ : ∃ B, B = A ++ facM c x n m := ⟨_, rfl⟩
        have hBl : B.length ≤ 50000 := by
          have := facM_len c x n m
          rw [hB, List.length_append]; omega
        have hMs' : A ++ facM c x n (m + 1) = B ++ facN c x n m := by rw [hMs, hB, List.append_assoc]
        have hBm : (B.map clC).length ≤ 50000 := by rw [List.length_map]; exact hBl
        have hszB := clC_size B
        have hszO := clC_size (facO (wayL x) y (offL c n))
        have hOl : ((facO (wayL x) y (offL c n)).map clC).length ≤ 4 := by rw [List.length_map]; exact facO_len _ _ _
        refine aK ?_
        show AWp _ _ _ _ _ _ _
        refine aS (aB (aS (aR ?_)))
        (refine nx (aM (gN rfl) rfl rfl rfl rfl rfl) rfl ?_)
        (refine nx (a_index (j := m) (gN rfl) rfl rfl rfl rfl rfl rfl rfl rfl rfl (hy') rfl (hsz)) rfl ?_)
        (refine nx (a_load_ad (gN rfl) rfl rfl rfl rfl rfl rfl rfl rfl rfl) rfl ?_)
        (refine nx (a_allocT ltZ3 (gN rfl) rfl rfl rfl rfl rfl rfl rfl) rfl ?_)
        (refine nx (aA (gN rfl) rfl rfl rfl rfl rfl) rfl ?_)
        (refine nx (aSt (gN rfl) rfl rfl rfl rfl rfl rfl rfl rfl rfl rfl) rfl ?_)
        show AWp _ _ _ _ _ _ _
        refine AWp.wk (wk_sub (s' := [(0, .val (.lst (c.map Lt.cv))), (3, .own (.lst (B.map clC)) 200047), (200047, .tok 26 1), (10, .val (.lst (L.map CV.i))), (11, .val (.i (L.map CV.i).length)), (12, .val (.i k)), (5, .val (.i (n : Int))), (6, .val (.lst ((offL c n).map Lt.cv))), (24, .val (.lst (c.map Lt.cv))), (25, .val (.i (c.map Lt.cv).length)), (26, .val (.i m)), (7, .val (.i m)), (8, .bp 8 0 []), (100008, .bx y.cw)]) ⟨rfl, by rw [hB]; rfl, rfl, rfl, rfl, rfl, rfl, rfl, rfl, rfl, rfl, rfl, rfl, rfl, trivial⟩) ?_
        -- what is left when nothing is told
        have hno : facN c x n m = [] → ∀ s : AS, SubL s [(0, .val (.lst (c.map Lt.cv))), (3, .own (.lst (B.map clC)) 200047), (200047, .tok 26 1), (10, .val (.lst (L.map CV.i))), (11, .val (.i (L.map CV.i).length)), (12, .val (.i k)), (5, .val (.i (n : Int))), (6, .val (.lst ((offL c n).map Lt.cv))), (24, .val (.lst (c.map Lt.cv))), (25, .val (.i (c.map Lt.cv).length)), (26, .val (.i ((m + 1 : Nat) : Int)))] → SubL s (st2 (m + 1)) := fun h s hs => by
          have e2 : A ++ facM c x n (m + 1) = B := by rw [hMs', h, List.append_nil]
          show SubL s [(0, .val (.lst (c.map Lt.cv))), (3, .own (.lst ((A ++ facM c x n (m + 1)).map clC)) 200047), (200047, .tok 26 1), (10, .val (.lst (L.map CV.i))), (11, .val (.i (L.map CV.i).length)), (12, .val (.i k)), (5, .val (.i (n : Int))), (6, .val (.lst ((offL c n).map Lt.cv))), (24, .val (.lst (c.map Lt.cv))), (25, .val (.i (c.map Lt.cv).length)), (26, .val (.i ((m + 1 : Nat) : Int)))]
          rw [e2]
          exact hs
        by_cases hmn : m = n
        · have g : decide ((m : Int) = (n : Int)) = true := decide_eq_true (by omega)
          have g2 : decide ((m : Int) ≠ (n : Int)) = false := decide_eq_false (by omega)
          refine aS (aR ?_)
          (refine nx (aM (gN rfl) rfl rfl rfl rfl rfl) rfl ?_)
          (refine nx (aM (gN rfl) rfl rfl rfl rfl rfl) rfl ?_)
          (refine nx (a_neq (gN rfl) rfl rfl rfl rfl rfl rfl) rfl ?_)
          (refine nx (aM (gN rfl) rfl rfl rfl rfl rfl) rfl ?_)
          (refine ⟨_, _, _, a_off (go_off rfl rfl rfl rfl (by first | rfl | assumption | (simp; done) | (simp [*]; done))) rfl rfl rfl, rfl, ?_⟩)
          (refine ⟨_, _, _, a_off (go_off rfl rfl rfl rfl (by first | rfl | assumption | (simp; done) | (simp [*]; done))) rfl rfl rfl, rfl, ?_⟩)
          (refine ⟨_, _, _, a_off (go_off rfl rfl rfl rfl (by first | rfl | assumption | (simp; done) | (simp [*]; done))) rfl rfl rfl, rfl, ?_⟩)
          (refine ⟨_, _, _, aPf (gN rfl) rfl rfl rfl rfl rfl ?hb rfl, rfl, ?_⟩; case hb => (first | rfl | assumption | (simp; done)))
          show AWp _ _ _ _ _ _ _
          refine aC rfl (fun h => by cases h) (fun _ => aK ?_)
          show AWp _ _ _ _ _ _ _
          refine aR ?_
          (refine nx (a_add (gN rfl) rfl rfl rfl rfl rfl rfl (by first | omega | (simp only [List.length_map, List.length_append, List.length_cons, List.length_nil] <;> omega) | (simp <;> omega))) rfl ?_)
          (refine nx (aM (gN rfl) rfl rfl rfl rfl rfl) rfl ?_)
          exact ⟨hml, wk_sub (hno (by rw [hfn, if_neg (fun h => h.1 hmn)]) _ ⟨rfl, rfl, rfl, rfl, rfl, rfl, rfl, rfl, rfl, rfl, rfl, trivial⟩)⟩
        · have g : decide ((m : Int) = (n : Int)) = false := decide_eq_false (by omega)
          have g2 : decide ((m : Int) ≠ (n : Int)) = true := decide_eq_true (by omega)
          refine aS (aR ?_)
          (refine nx (aM (gN rfl) rfl rfl rfl rfl rfl) rfl ?_)
          (refine nx (aM (gN rfl) rfl rfl rfl rfl rfl) rfl ?_)
          (refine nx (a_neq (gN rfl) rfl rfl rfl rfl rfl rfl) rfl ?_)
          (refine nx (aM (gN rfl) rfl rfl rfl rfl rfl) rfl ?_)
          (refine nx (aF (gd_on rfl rfl rfl rfl (by first | rfl | assumption | (simp; done))) rfl rfl rfl rfl rfl rfl rfl rfl rfl) rfl ?_)
          (refine nx (aLb (gd_on rfl rfl rfl rfl (by first | rfl | assumption | (simp; done))) rfl rfl rfl rfl rfl rfl rfl rfl rfl rfl rfl rfl) rfl ?_)
          (refine nx (a_not (gd_on rfl rfl rfl rfl (by first | rfl | assumption | (simp; done))) rfl rfl rfl rfl rfl) rfl ?_)
          (refine ⟨_, _, _, aPt (gN rfl) rfl rfl rfl rfl rfl ?hb rfl, rfl, ?_⟩; case hb => (first | rfl | assumption | (simp; done)))
          show AWp _ _ _ _ _ _ _
          refine aC rfl (fun hq => ?_) (fun hq => ?_)
          · have hq : (!y.neg) = true := hq
            have hyn : y.neg = false := by simpa using hq
            have e2 : A ++ facM c x n (m + 1) = B ++ facO (wayL x) y (offL c n) := by rw [hMs', hfn, if_pos ⟨hmn, hyn⟩]
            refine aD (by kernel_rfl) (by kernel_rfl) ?_
            (refine nx (aM (gN rfl) rfl rfl rfl rfl rfl) rfl ?_)
            (refine nx (aM (gN rfl) rfl rfl rfl rfl rfl) rfl ?_)
            (refine nx (aM (gN rfl) rfl rfl rfl rfl rfl) rfl ?_)
            (refine nx (a_index (j := n) (gN rfl) rfl rfl rfl rfl rfl rfl rfl rfl rfl (hx') rfl (hsz)) rfl ?_)
            (refine nx (a_load_ad (gN rfl) rfl rfl rfl rfl rfl rfl rfl rfl rfl) rfl ?_)
            (refine nx (aL (gN rfl) rfl rfl rfl rfl rfl rfl rfl rfl rfl rfl rfl rfl) rfl ?_)
            (refine nx (aM (gN rfl) rfl rfl rfl rfl rfl) rfl ?_)
            (refine nx (a_call (gN rfl) rfl rfl rfl rfl rfl (eFactors_abs w x y (offL c n) hxt hyt (ten_off hc n) (by omega))) rfl ?_)
            (refine nx (a_app (gN rfl) rfl rfl rfl rfl rfl rfl rfl rfl rfl rfl rfl rfl rfl rfl rfl (by first | assumption | exact sZ rfl | exact Tm.size_all _ | exact Bd.size_all _ | exact ints_size _ | exact bys_size _ | exact Lt.size_all _) (by first | assumption | exact sZ rfl | exact Tm.size_all _ | exact Bd.size_all _ | exact ints_size _ | exact bys_size _ | exact Lt.size_all _) (by first | omega | (simp only [List.length_map, List.length_append, List.length_cons, List.length_nil] <;> omega) | (simp <;> omega))) rfl ?_)
            (refine nx (aA (gN rfl) rfl rfl rfl rfl rfl) rfl ?_)
            refine ⟨by kernel_rfl, ?_⟩
            show AWp _ _ _ _ _ _ _
            refine aR ?_
            (refine nx (a_add (gN rfl) rfl rfl rfl rfl rfl rfl (by first | omega | (simp only [List.length_map, List.length_append, List.length_cons, List.length_nil] <;> omega) | (simp <;> omega))) rfl ?_)
            (refine nx (aM (gN rfl) rfl rfl rfl rfl rfl) rfl ?_)
            refine ⟨hml, (wk_sub (s' := [(0, .val (.lst (c.map Lt.cv))), (3, .own (.lst ((A ++ facM c x n (m + 1)).map clC)) 300047), (300047, .tok 26 1), (10, .val (.lst (L.map CV.i))), (11, .val (.i (L.map CV.i).length)), (12, .val (.i k)), (5, .val (.i (n : Int))), (6, .val (.lst ((offL c n).map Lt.cv))), (24, .val (.lst (c.map Lt.cv))), (25, .val (.i (c.map Lt.cv).length)), (26, .val (.i ((m + 1 : Nat) : Int)))]) ⟨rfl, ?_, rfl, rfl, rfl, rfl, rfl, rfl, rfl, rfl, rfl, trivial⟩).trans (wk_ren 300047 200047 rfl rfl rfl rfl)⟩
            show some (AV.own (.lst _) _) = some (AV.own (.lst _) _)
            rw [e2, List.map_append (f := clC)]
          · have hq : (!y.neg) = false := hq
            have hyn : y.neg = true := by simpa using hq
            refine aK ?_
            show AWp _ _ _ _ _ _ _
            refine aR ?_
            (refine nx (a_add (gN rfl) rfl rfl rfl rfl rfl rfl (by first | omega | (simp only [List.length_map, List.length_append, List.length_cons, List.length_nil] <;> omega) | (simp <;> omega))) rfl ?_)
            (refine nx (aM (gN rfl) rfl rfl rfl rfl rfl) rfl ?_)
            exact ⟨hml, wk_sub (hno (by rw [hfn, if_neg (fun h => by rw [hyn] at h; cases h.2)]) _ ⟨rfl, rfl, rfl, rfl, rfl, rfl, rfl, rfl, rfl, rfl, rfl, trivial⟩)⟩
      · have hml : m = c.length := by
          have : ¬ m < c.length := by simpa using hlt2
          omega
        subst hml
        refine aE ?_
        show AWp _ _ _ _ _ _ _
        refine aR ?_
        (refine nx (a_add (gN rfl) rfl rfl rfl rfl rfl rfl (by first | omega | (simp only [List.length_map, List.length_append, List.length_cons, List.length_nil] <;> omega) | (simp <;> omega))) rfl ?_)
        (refine nx (aM (gN rfl) rfl rfl rfl rfl rfl) rfl ?_)
        refine ⟨hkl, wk_sub ⟨rfl, ?_, rfl, rfl, rfl, rfl, trivial⟩⟩
        rw [e]; rfl
  · have hkl : k = L.length := by
      have : ¬ k < L.length := by simpa using hlt
      omega
    subst hkl
    refine aE ?_
    show AWp _ _ _ _ _ _ _
    refine aS (aR ?_)
    (refine nx (aM (gN rfl) rfl rfl rfl rfl rfl) rfl ?_)
    (refine nx (aA (gN rfl) rfl rfl rfl rfl rfl) rfl ?_)
    show AWp _ _ _ _ _ _ _
    exact aT (And.intro (.inr rfl) rfl)
def DocU (a b : Tm) (d : List Bd) : Prop := (∀ W, AFun Tryz.prog W 30 [.lst [a.cw], .lst [b.cw]] (.tup [.lst (d.map Bd.cv), .b (mgT a b).2])) ∧ d.length ≤ 1000000 ∧ (∀ x ∈ d, x.t.rng ∧ x.t.ok) ∧ d.map Bd.strip = (mgT a b).1.map Bd.strip
noncomputable def dT (a b : Tm) : List Bd := open Classical in if h : ∃ d, DocU a b d then Classical.choose h else []
theorem doc_u {a b : Tm} (ha : a.ten) (hb : b.ten) : DocU a b (dT a b) := by
  have he : ∃ d, DocU a b d := by
    obtain ⟨n, r, e, hC, hz, hT⟩ := told_of (l := [(a, b)]) (by simp) (ten_tiny ha hb)
    have hm := mg_of hT
    refine ⟨(r.map fun s => rnmF s s.length).getD [], fun W => ?_, ?_, ?_, ?_⟩
    · have h := refAll_abs W n [a] [b] r rfl (by simp) e hC (fun s hs => ⟨(hz s hs).1, fun x hx => ((hz s hs).2 x hx).1⟩)
      simp only [List.map_cons, List.map_nil, Tm.cv_eq] at h
      rw [hm]
      exact h
    · cases r with
      | none => exact Nat.zero_le _
      | some s =>
        have h1 := rnmF_len s s.length
        have h2 := (hz s rfl).1
        show (rnmF s s.length).length ≤ _
        omega
    · cases r with
      | none => intro x hx; cases hx
      | some s =>
        intro x hx
        exact (hz s rfl).2 x (rnmF_mem s _ x hx)
    · rw [hm]
      cases r with
      | none => rfl
      | some s => exact (norm_doc s).symm
  unfold dT
  rw [dif_pos he]
  exact Classical.choose_spec he
theorem img_strips (s : List Bd) (v : Int) : imgB (s.map Bd.strip) v = (imgB s v).strip := by
  unfold imgB
  rw [findB_map]
  cases findB s v with
  | none => exact (varT_strip v).symm
  | some t => rfl
theorem rep_imgs {σ τ : Int → Tm} (h : ∀ v, (σ v).strip = (τ v).strip) (t : Tm) : repT σ t = repT τ t := by
  induction t using Tm.ind with
  | h f l ih =>
    by_cases hf : f < 0
    · rw [repT_var (show (⟨f, l⟩ : Tm).f < 0 from hf), repT_var (show (⟨f, l⟩ : Tm).f < 0 from hf), h]
    · rw [repT_sym (show ¬ (⟨f, l⟩ : Tm).f < 0 from hf), repT_sym (show ¬ (⟨f, l⟩ : Tm).f < 0 from hf)]
      congr 1
      exact List.map_congr_left ih
theorem doc_rep {a b : Tm} (ha : a.ten) (hb : b.ten) (t : Tm) : repT (imgB (dT a b)) t = repT (mgS a b) t := by
  have h := (doc_u ha hb).2.2.2
  refine rep_imgs (fun v => ?_) t
  have h1 := img_strips (dT a b) v
  have h2 := img_strips (mgT a b).1 v
  rw [h] at h1
  exact h1.symm.trans h2
theorem doc_lit {a b : Tm} (ha : a.ten) (hb : b.ten) (l : Lt) : (appL (dT a b) l).strip = (Lt.rep (mgS a b) l).strip := by
  rw [appL_strip]
  unfold Lt.rep
  rw [doc_rep ha hb, doc_rep ha hb]
theorem doc_cl {a b : Tm} (ha : a.ten) (hb : b.ten) (c : List Lt) : (c.map (appL (dT a b))).map Lt.strip = (c.map (Lt.rep (mgS a b))).map Lt.strip := by
  rw [List.map_map, List.map_map]
  exact List.map_congr_left fun l _ => doc_lit ha hb l
theorem doc_app {a b : Tm} (ha : a.ten) (hb : b.ten) {t : Tm} (ht : t.ten) : (appR (dT a b) t).rng ∧ (appR (dT a b) t).ok ∧ (appR (dT a b) t).size ≤ 29550 ∧ (appR (dT a b) t).strip = (repT (mgS a b) t).strip := by
  obtain ⟨h1, h2, h3, h4⟩ := doc_u ha hb
  have hs : (appR (dT a b) t).strip = (repT (mgS a b) t).strip := by rw [appR_strip, doc_rep ha hb]
  refine ⟨appR_rng ht.1.1 fun x hx => (h3 x hx).1, appR_ok ht.1.2 fun x hx => (h3 x hx).2, ?_, hs⟩
  rw [← Tm.strip_size, hs, Tm.strip_size]
  exact (mg_rep ha hb ht).2.2
theorem doc_kb {a b : Tm} (ha : a.ten) (hb : b.ten) {t u : Tm} (ht : t.ten) (hu : u.ten) : kb (appR (dT a b) t) (appR (dT a b) u) = kb (repT (mgS a b) t) (repT (mgS a b) u) := by
  rw [← kb_strip, (doc_app ha hb ht).2.2.2, (doc_app ha hb hu).2.2.2, kb_strip]

def offD (c : List Lt) (i : Int) (k : Nat) : List Lt := (List.range k).filterMap fun j : Nat => if (j : Int) = i then none else c[j]?
theorem offD_succ {c : List Lt} {i : Int} {k : Nat} {x : Lt} (h : c[k]? = some x) : offD c i (k + 1) = offD c i k ++ (if (k : Int) = i then [] else [x]) := by
  unfold offD
  rw [List.range_succ, List.filterMap_append]
  congr 1
  rw [List.filterMap_cons, h]
  split <;> rename_i h2 <;> split at h2 <;> simp_all
theorem offD_len (c : List Lt) (i : Int) (k : Nat) : (offD c i k).length ≤ k := by
  unfold offD
  exact Nat.le_trans (List.length_filterMap_le _ _) (by rw [List.length_range]; omega)
theorem offD_at (c : List Lt) (i : Int) : ∀ k, k ≤ c.length → offD c i k = if 0 ≤ i ∧ i < k then c.take i.toNat ++ (c.take k).drop (i.toNat + 1) else c.take k
  | 0, _ => by
    rw [if_neg (by omega)]
    rfl
  | k + 1, hk => by
    obtain ⟨x, hx⟩ : ∃ x, c[k]? = some x := ⟨c[k], List.getElem?_eq_getElem (by omega)⟩
    rw [offD_succ hx, offD_at c i k (by omega)]
    have ht : c.take (k + 1) = c.take k ++ [x] := by rw [List.take_add_one, hx]; rfl
    have hl : (c.take k).length = k := by rw [List.length_take]; omega
    by_cases h1 : (k : Int) = i
    · rw [if_neg (by omega), if_pos h1, if_pos (by omega), show i.toNat = k by omega, ht, List.append_nil, List.drop_of_length_le (by rw [List.length_append, hl]; simp), List.append_nil]
    · rw [if_neg h1]
      by_cases h2 : 0 ≤ i ∧ i < k
      · rw [if_pos h2, if_pos (by omega), ht, List.drop_append_of_le_length (by rw [hl]; omega), List.append_assoc]
      · rw [if_neg h2, if_neg (by omega), ht]
theorem offD_eq (c : List Lt) (i : Int) : offD c i c.length = if 0 ≤ i ∧ i < c.length then offL c i.toNat else c := by
  rw [offD_at c i c.length (Nat.le_refl _), List.take_length]
  rfl
noncomputable def resDi (c : List Lt) (i : Nat) : Option (List Lt) := match c[i]? with
  | some x => if x.neg = true ∧ (mgT x.a x.b).2 = true ∧ (i : Int) ∈ lokL c then some ((offL c i).map (appL (dT x.a x.b))) else none
  | none => none
noncomputable def resD (c : List Lt) (k : Nat) : List (List Lt) := (List.range k).filterMap (resDi c)
def sdT (l : Lt) (n : Nat) : Tm := if n = 0 then l.a else l.b
theorem sd_ten {l : Lt} (h : l.ten) (n : Nat) : (sdT l n).ten := by
  unfold sdT
  split
  · exact h.1
  · exact h.2
noncomputable def facDi (c : List Lt) (i j p q : Nat) : Option (List Lt) := match c[i]?, c[j]? with
  | some x, some y =>
    if i = j ∨ x.neg = true ∨ y.neg = true ∨ (i : Int) ∉ lokL c then none
    else if (mgT (sdT x p) (sdT y q)).2 = true ∧ leadB (repT (mgS (sdT x p) (sdT y q)) (sdT x p)) (repT (mgS (sdT x p) (sdT y q)) (sdT x (1 - p))) = true then some ((offL c i ++ [(⟨true, sdT x (1 - p), sdT y (1 - q)⟩ : Lt)]).map (appL (dT (sdT x p) (sdT y q))))
    else none
  | _, _ => none
noncomputable def facDn (c : List Lt) (N : Nat) : Option (List Lt) := facDi c (N / 4 / c.length) (N / 4 % c.length) (N / 2 % 2) (N % 2)
noncomputable def facD (c : List Lt) (k : Nat) : List (List Lt) := (List.range k).filterMap (facDn c)
def stC (L : List (List Lt)) : List (List Lt) := L.map (List.map Lt.strip)

theorem hvK_lt (c : List Lt) : ∀ k : Nat, -1 ≤ (hvK c k).1 ∧ (hvK c k).1 < k
  | 0 => ⟨by show (-1 : Int) ≤ -1; omega, by show (-1 : Int) < _; omega⟩
  | k + 1 => by
    obtain ⟨h1, h2⟩ := hvK_lt c k
    unfold hvK
    split
    · omega
    · split
      · simp only; omega
      · omega
theorem range_one {β : Type} (g : Nat → List β) (h : Nat) : ∀ n, (List.range n).flatMap (fun i => if i = h then g i else []) = if h < n then g h else []
  | 0 => by rw [if_neg (by omega)]; rfl
  | n + 1 => by
    rw [List.range_succ, List.flatMap_append, range_one g h n]
    by_cases h1 : h < n
    · rw [if_pos h1, if_pos (by omega)]
      simp only [List.flatMap_cons, List.flatMap_nil, List.append_nil]
      rw [if_neg (by omega), List.append_nil]
    · rw [if_neg h1]
      simp only [List.flatMap_cons, List.flatMap_nil, List.append_nil, List.nil_append]
      by_cases h2 : n = h
      · rw [if_pos h2, if_pos (by omega), h2]
      · rw [if_neg h2, if_neg (by omega)]
theorem filter_flat {α β : Type} (P : α → Bool) (g : α → List β) : ∀ L : List α, (L.filter P).flatMap g = L.flatMap fun i => if P i = true then g i else []
  | [] => rfl
  | x :: L => by
    rw [List.flatMap_cons, ← filter_flat P g L]
    by_cases h : P x = true
    · rw [List.filter_cons_of_pos h, List.flatMap_cons, if_pos h]
    · rw [List.filter_cons_of_neg h, if_neg h, List.nil_append]
theorem flat_congr {α β : Type} {f g : α → List β} : ∀ {L : List α}, (∀ x ∈ L, f x = g x) → L.flatMap f = L.flatMap g
  | [], _ => rfl
  | x :: L, h => by rw [List.flatMap_cons, List.flatMap_cons, h x (by simp), flat_congr fun y hy => h y (List.mem_cons_of_mem _ hy)]
theorem lok_flat {β : Type} (c : List Lt) (g : Nat → List β) : ((lokL c).flatMap fun z => g z.toNat) = (List.range c.length).flatMap fun i : Nat => if (i : Int) ∈ lokL c then g i else [] := by
  unfold lokL
  split
  · rename_i h
    obtain ⟨h0, h1⟩ : ∃ h0 : Nat, (hvK c c.length).1 = (h0 : Int) := ⟨(hvK c c.length).1.toNat, by omega⟩
    have hlt := (hvK_lt c c.length).2
    rw [h1] at hlt ⊢
    have e : (fun i : Nat => if (i : Int) ∈ [(h0 : Int)] then g i else []) = fun i => if i = h0 then g i else [] := by
      funext i
      by_cases hi : i = h0
      · rw [if_pos hi, if_pos (by rw [hi]; simp)]
      · rw [if_neg hi, if_neg (by rw [List.mem_singleton]; omega)]
    rw [e, range_one, if_pos (by omega)]
    simp
  · unfold gsK
    rw [List.flatMap_map]
    have e1 : (fun i : Nat => g (i : Int).toNat) = g := by funext i; rw [Int.toNat_natCast]
    show List.flatMap (fun i : Nat => g (i : Int).toNat) _ = _
    rw [e1, filter_flat]
    refine flat_congr fun i hi => ?_
    have hm : ((i : Int) ∈ ((List.range c.length).filter fun i : Nat => gstI c (i : Int)).map fun i : Nat => (i : Int)) ↔ gstI c (i : Int) = true := by
      rw [List.mem_map]
      constructor
      · rintro ⟨j, hj, e⟩
        have : j = i := by omega
        rw [← this]
        exact (List.mem_filter.1 hj).2
      · intro h
        exact ⟨i, List.mem_filter.2 ⟨hi, h⟩, rfl⟩
    by_cases h : gstI c (i : Int) = true
    · rw [if_pos h, if_pos (hm.2 h)]
    · rw [if_neg h, if_neg (fun h2 => h (hm.1 h2))]
theorem filt_flat {α β : Type} (f : α → Option β) : ∀ L : List α, L.filterMap f = L.flatMap fun x => (f x).toList
  | [] => rfl
  | x :: L => by
    rw [List.flatMap_cons, ← filt_flat f L, List.filterMap_cons]
    cases f x <;> rfl
theorem stC_flat {α : Type} (f : α → List (List Lt)) (L : List α) : stC (L.flatMap f) = L.flatMap fun x => stC (f x) := by
  unfold stC
  rw [List.map_flatMap]
theorem res_doc {c : List Lt} (hc : ∀ l ∈ c, l.ten) : stC (resA1 c) = stC (resD c c.length) := by
  unfold resA1 resD
  rw [filt_flat, filt_flat, lok_flat c fun n => (resC c n).toList, stC_flat, stC_flat]
  refine flat_congr fun i hi => ?_
  obtain ⟨x, hx⟩ : ∃ x, c[i]? = some x := ⟨c[i]'(List.mem_range.1 hi), List.getElem?_eq_getElem _⟩
  have hxt := hc x (List.mem_of_getElem? hx)
  unfold resC resDi
  rw [hx]
  simp only
  by_cases h1 : (i : Int) ∈ lokL c
  · rw [if_pos h1]
    by_cases h2 : x.neg = true ∧ (mgT x.a x.b).2 = true
    · rw [if_pos h2, if_pos ⟨h2.1, h2.2, h1⟩]
      show [_] = [_]
      rw [doc_cl hxt.1 hxt.2]
    · rw [if_neg h2, if_neg (fun h => h2 ⟨h.1, h.2.1⟩)]
  · rw [if_neg h1, if_neg (fun h => h1 h.2.2)]
    rfl
theorem range_mul {β : Type} (g : Nat → List β) (b : Nat) : ∀ a, (List.range (a * b)).flatMap g = (List.range a).flatMap fun i => (List.range b).flatMap fun j => g (i * b + j)
  | 0 => by rw [Nat.zero_mul]; rfl
  | a + 1 => by
    rw [List.range_succ, List.flatMap_append, ← range_mul g b a, Nat.add_mul, Nat.one_mul, List.range_add, List.flatMap_append, List.flatMap_map]
    simp
theorem fac_doc {c : List Lt} (hc : ∀ l ∈ c, l.ten) : stC (facA c) = stC (facD c (4 * c.length * c.length)) := by
  unfold facA facD
  rw [filt_flat, lok_flat c fun n => facL c n]
  have e0 : 4 * c.length * c.length = c.length * c.length * 2 * 2 := by
    rw [Nat.mul_assoc 4, Nat.mul_comm 4]; omega
  rw [e0, range_mul, range_mul, range_mul, stC_flat, stC_flat]
  refine flat_congr fun i hi => ?_
  have hil := List.mem_range.1 hi
  obtain ⟨x, hx⟩ : ∃ x, c[i]? = some x := ⟨c[i], List.getElem?_eq_getElem hil⟩
  have hxt := hc x (List.mem_of_getElem? hx)
  have key : ∀ j, j < c.length → (if (i : Int) ∈ lokL c then (if x.neg = true then [] else stC (facN c x i j)) else []) = stC ((List.range 2).flatMap fun p => (List.range 2).flatMap fun q => (facDn c (((i * c.length + j) * 2 + p) * 2 + q)).toList) := by
    intro j hj
    obtain ⟨y, hy⟩ : ∃ y, c[j]? = some y := ⟨c[j], List.getElem?_eq_getElem hj⟩
    have hyt := hc y (List.mem_of_getElem? hy)
    have hN : ∀ p q, p < 2 → q < 2 → facDn c (((i * c.length + j) * 2 + p) * 2 + q) = facDi c i j p q := by
      intro p q hp hq
      obtain ⟨X, hX⟩ : ∃ X, X = i * c.length + j := ⟨_, rfl⟩
      have h1 : ((X * 2 + p) * 2 + q) / 4 = X := by omega
      have h2 : ((X * 2 + p) * 2 + q) / 2 % 2 = p := by omega
      have h3 : ((X * 2 + p) * 2 + q) % 2 = q := by omega
      have h4 : X / c.length = i := by
        rw [hX, Nat.mul_comm, Nat.mul_add_div (by omega), Nat.div_eq_of_lt hj, Nat.add_zero]
      have h5 : X % c.length = j := by
        rw [hX, Nat.mul_comm, Nat.mul_add_mod, Nat.mod_eq_of_lt hj]
      unfold facDn
      rw [← hX, h1, h2, h3, h4, h5]
    have e1 : ((List.range 2).flatMap fun p => (List.range 2).flatMap fun q => (facDn c (((i * c.length + j) * 2 + p) * 2 + q)).toList) = (facDi c i j 0 0).toList ++ (facDi c i j 0 1).toList ++ ((facDi c i j 1 0).toList ++ (facDi c i j 1 1).toList) := by
      have e2 : List.range 2 = [0, 1] := rfl
      rw [e2]
      simp only [List.flatMap_cons, List.flatMap_nil, List.append_nil]
      rw [hN 0 0 (by omega) (by omega), hN 0 1 (by omega) (by omega), hN 1 0 (by omega) (by omega), hN 1 1 (by omega) (by omega)]
    rw [e1]
    by_cases h0 : i = j ∨ x.neg = true ∨ y.neg = true ∨ (i : Int) ∉ lokL c
    · have hn : ∀ p q, facDi c i j p q = none := fun p q => by
        unfold facDi
        rw [hx, hy]
        simp only
        rw [if_pos h0]
      rw [hn, hn, hn, hn]
      show _ = []
      by_cases h1 : (i : Int) ∈ lokL c
      · rw [if_pos h1]
        by_cases h2 : x.neg = true
        · rw [if_pos h2]
        · rw [if_neg h2]
          unfold facN
          rw [hy]
          simp only
          rw [if_neg (fun hh => by
            rcases h0 with h | h | h | h
            · exact hh.1 h.symm
            · exact h2 h
            · rw [hh.2] at h; cases h
            · exact h h1)]
          rfl
      · rw [if_neg h1]
    · have h1 : (i : Int) ∈ lokL c := Decidable.byContradiction fun h => h0 (.inr (.inr (.inr h)))
      have h2 : ¬ x.neg = true := fun h => h0 (.inr (.inl h))
      have h3 : y.neg = false := by
        cases h : y.neg with
        | false => rfl
        | true => exact absurd (.inr (.inr (.inl h))) h0
      have hij : j ≠ i := fun h => h0 (.inl h.symm)
      rw [if_pos h1, if_neg h2]
      have hd : ∀ p q, stC (facDi c i j p q).toList = stC (facC (sdT x p, sdT x (1 - p)) (sdT y q, sdT y (1 - q)) (offL c i)).toList := fun p q => by
        unfold facDi facC
        rw [hx, hy]
        simp only
        rw [if_neg h0]
        split
        · show [_] = [_]
          rw [doc_cl (sd_ten hxt p) (sd_ten hyt q)]
        · rfl
      unfold facN
      rw [hy]
      simp only
      rw [if_pos ⟨hij, h3⟩]
      have happ : ∀ A B : List (List Lt), stC (A ++ B) = stC A ++ stC B := fun A B => List.map_append
      rw [happ, happ, happ, hd, hd, hd, hd, ← happ, ← happ, ← happ]
      congr 1
      unfold facO facI wayL
      simp only [filt_flat, List.flatMap_cons, List.flatMap_nil, List.append_nil]
      rfl
  have e1 : (if (i : Int) ∈ lokL c then facL c i else []) = (List.range c.length).flatMap fun j => if (i : Int) ∈ lokL c then (if x.neg = true then [] else facN c x i j) else [] := by
    unfold facL
    rw [hx]
    simp only
    by_cases h1 : (i : Int) ∈ lokL c
    · rw [if_pos h1]
      by_cases h2 : x.neg = true
      · rw [if_pos h2]
        rw [flat_congr (g := fun _ => []) fun j _ => by rw [if_pos h1, if_pos h2]]
        simp
      · rw [if_neg h2]
        exact flat_congr fun j _ => by rw [if_pos h1, if_neg h2]
    · rw [if_neg h1]
      rw [flat_congr (g := fun _ => []) fun j _ => by rw [if_neg h1]]
      simp
  rw [e1, stC_flat, stC_flat]
  refine flat_congr fun j hj => ?_
  rw [← key j (List.mem_range.1 hj)]
  by_cases h1 : (i : Int) ∈ lokL c
  · rw [if_pos h1, if_pos h1]
    by_cases h2 : x.neg = true
    · rw [if_pos h2, if_pos h2]; rfl
    · rw [if_neg h2, if_neg h2]
  · rw [if_neg h1, if_neg h1]; rfl
theorem img_var {L : List Bd} (h : ∀ b ∈ L, ∃ u, b.t = varT u) (v : Int) : ∃ u, imgB L v = varT u := by
  unfold imgB
  cases hf : findB L v with
  | none => exact ⟨v, rfl⟩
  | some t =>
    have : ∃ b ∈ L, b.t = t := by
      clear h
      induction L with
      | nil => cases hf
      | cons b L ih =>
        unfold findB at hf
        split at hf
        · exact ⟨b, by simp, by injection hf⟩
        · obtain ⟨x, hx, e⟩ := ih hf
          exact ⟨x, List.mem_cons_of_mem _ hx, e⟩
    obtain ⟨b, hb, rfl⟩ := this
    obtain ⟨u, e⟩ := h b hb
    exact ⟨u, e⟩
theorem rep_size1 {img : Int → Tm} (h : ∀ v, ∃ u, img v = varT u) (t : Tm) : (repT img t).size = t.size := by
  have := repT_size img t
  have e : (t.vs.map fun v => (((img v).size : Nat) : Int) - 1).sum = 0 := by
    generalize t.vs = l
    induction l with
    | nil => rfl
    | cons v l ih =>
      obtain ⟨u, hu⟩ := h v
      rw [List.map_cons, List.sum_cons, ih, hu, varT_size]; rfl
  rw [e] at this
  omega
theorem okCl.rep {c : List Lt} (hn : okCl c) {L : List Bd} (hL : ∀ b ∈ L, ∃ u, b.t = varT u ∧ 0 ≤ u ∧ u ≤ 24001) : okCl (c.map (Lt.rep (imgB L))) := by
  refine ⟨by rw [List.length_map]; exact hn.1, fun l hl => ?_⟩
  obtain ⟨x, hx, rfl⟩ := List.mem_map.1 hl
  have hv : ∀ v, ∃ u, imgB L v = varT u := img_var fun b hb => by obtain ⟨u, e, _⟩ := hL b hb; exact ⟨u, e⟩
  have hb : bdsOk L := fun b hb => by
    obtain ⟨u, e, h1, h2⟩ := hL b hb
    rw [e]
    exact ⟨varT_rng h1 (by omega), by rw [varT_size]; omega⟩
  have key : ∀ t : Tm, (t.rng ∧ t.ok ∧ t.size ≤ 1000) → ((repT (imgB L) t).rng ∧ (repT (imgB L) t).ok ∧ (repT (imgB L) t).size ≤ 1000) := fun t ht => by
    refine ⟨repT_rng ht.1 fun v h1 h2 => (imgB_ok hb h1 h2).1, repT_ok ht.2.1 fun v => ?_, by rw [rep_size1 hv]; exact ht.2.2⟩
    obtain ⟨u, hu⟩ := hv v
    rw [hu]
    exact varT_ok u
  exact ⟨key _ (hn.2 x hx).1, key _ (hn.2 x hx).2⟩
def snL (c : List Lt) : List Sn := c.map fun l => trnS l (lkL l)
end Go.Proofs.YtglmoficcjphaaaGreat
namespace Go.Proofs.YtglmoficcjphaaaGreat
open Go.RowKit
set_option linter.unusedVariables false
set_option linter.unusedSimpArgs false
def alk (x y : Lt) : Prop := (x.a.strip = y.a.strip ∧ x.b.strip = y.b.strip) ∨ (x.a.strip = y.b.strip ∧ x.b.strip = y.a.strip)
def TautQ (c : List Lt) : Prop := (∃ l ∈ c, l.neg = false ∧ l.a.strip = l.b.strip) ∨ ∃ x ∈ c, ∃ y ∈ c, x.neg ≠ y.neg ∧ alk x y
def ttD1 (x y : Lt) : Bool := (x.neg && !y.neg) && (sameL x ⟨true, y.a, y.b⟩ || sameL x ⟨true, y.b, y.a⟩)
def ttD (c : List Lt) : Bool := c.any fun x => (!x.neg && sameT x.a x.b) || c.any (ttD1 x)
theorem TautQ.rep {c : List Lt} (h : TautQ c) (img : Int → Tm) : TautQ (c.map (Lt.rep img)) := by
  have key : ∀ s t : Tm, s.strip = t.strip → (repT img s).strip = (repT img t).strip := fun s t e => by
    rw [← rep_strip img s, ← rep_strip img t, e]
  rcases h with ⟨l, hl, hn, he⟩ | ⟨x, hx, y, hy, hn, he⟩
  · exact .inl ⟨_, List.mem_map_of_mem hl, hn, key _ _ he⟩
  · refine .inr ⟨_, List.mem_map_of_mem hx, _, List.mem_map_of_mem hy, hn, ?_⟩
    rcases he with ⟨p, q⟩ | ⟨p, q⟩
    · exact .inl ⟨key _ _ p, key _ _ q⟩
    · exact .inr ⟨key _ _ p, key _ _ q⟩
end Go.Proofs.YtglmoficcjphaaaGreat
namespace Go.Proofs.YtglmoficcjphaaaGreat
open Go.RowKit
set_option linter.unusedVariables false
set_option linter.unusedSimpArgs false
set_option maxRecDepth 100000
def blkT (t : Tm) : Tm := appR (zipB t.nv ((nums t.nv.length).map fun _ => 0)) t
def okL (l : Lt) : Prop := (l.a.rng ∧ l.a.ok ∧ l.a.size ≤ 1000) ∧ (l.b.rng ∧ l.b.ok ∧ l.b.size ≤ 1000)
-- 
set_option maxHeartbeats 1000000 in
theorem refAppC_abs (W : World) (s : List Bd) (c : List Lt) (hs : s.length ≤ 1000000) (hl : c.length ≤ 1000000) (hc : ∀ l ∈ c, (l.a.rng ∧ l.a.ok) ∧ l.b.rng ∧ l.b.ok) : AFun Tryz.prog W 32 [.lst (s.map Bd.cv), .lst (c.map Lt.cv)] (.val (.lst ((c.map (appL s)).map Lt.cv))) := by
  have hsz := Lt.size_all c
  refine afun_of (rs := [.lst ((c.map (appL s)).map Lt.cv)]) Tryz.func32 Tryz.ntmps32 rfl rfl rfl rfl ?_
  intro w U hW
  refine aS (aR ?_)
  (refine nx (aA (gN rfl) rfl rfl rfl rfl rfl) rfl ?_)
  show AWp _ _ _ _ _ _ _
  refine aS (aR ?_)
  (refine nx (aA (gN rfl) rfl rfl rfl rfl rfl) rfl ?_)
  show AWp _ _ _ _ _ _ _
  refine aS (aS (aR ?_))
  (refine nx (aA (gN rfl) rfl rfl rfl rfl rfl) rfl ?_)
  show AWp _ _ _ _ _ _ _
  refine aB (awp_count c.length (fun k => [(0, .val (.lst (s.map Bd.cv))), (1, .val (.lst (c.map Lt.cv))), (5, .own (.lst (((c.take k).map (appL s)).map Lt.cv)) 200035), (200035, .tok 53 5), (6, .val (.i k))]) ((wk_nil 5 200035 53 5 rfl rfl rfl rfl rfl rfl rfl).trans (wk_sub ⟨rfl, rfl, rfl, rfl, rfl, trivial⟩)) ?_)
  intro k hk
  have hks := Lt.size_all ((c.take k).map (appL s))
  refine aS (aS (aR ?_))
  (refine nx (aM (gN rfl) rfl rfl rfl rfl rfl) rfl ?_)
  (refine nx (aM (gN rfl) rfl rfl rfl rfl rfl) rfl ?_)
  (refine nx (a_len (gN rfl) rfl rfl rfl rfl rfl rfl rfl) rfl ?_)
  (refine nx (a_lss (gN rfl) rfl rfl rfl rfl rfl rfl) rfl ?_)
  show AWp _ _ _ _ _ _ _
  refine aC rfl (fun hlt => ?_) (fun hlt => ?_)
  · have hkl : k < c.length := by simpa using hlt
    obtain ⟨x, hx⟩ : ∃ x, c[k]? = some x := ⟨c[k], List.getElem?_eq_getElem hkl⟩
    have hx' := Lt.map_at hx
    have hxm := List.mem_of_getElem? hx
    obtain ⟨⟨r1, o1⟩, r2, o2⟩ := hc x hxm
    have hkn : (((c.take k).map (appL s)).map Lt.cv).length ≤ 1000000 := by rw [List.length_map, List.length_map, List.length_take]; omega
    have hst : ((c.take (k + 1)).map (appL s)).map Lt.cv = ((c.take k).map (appL s)).map Lt.cv ++ [(appL s x).cw] := by
      rw [List.take_add_one, hx, Option.toList_some, List.map_append, List.map_append]; rfl
    refine aK ?_
    show AWp _ _ _ _ _ _ _
    refine aS (aB (aD (by kernel_rfl) (by kernel_rfl) ?_))
    (refine nx (aM (gN rfl) rfl rfl rfl rfl rfl) rfl ?_)
    (refine nx (aM (gN rfl) rfl rfl rfl rfl rfl) rfl ?_)
    (refine nx (aM (gN rfl) rfl rfl rfl rfl rfl) rfl ?_)
    (refine nx (a_index (j := k) (gN rfl) rfl rfl rfl rfl rfl rfl rfl rfl rfl (hx') rfl (hsz)) rfl ?_)
    (refine nx (a_field_ad (gN rfl) rfl rfl rfl rfl rfl rfl rfl rfl rfl rfl rfl) rfl ?_)
    (refine nx (a_load_ad (gN rfl) rfl rfl rfl rfl rfl rfl rfl rfl rfl) rfl ?_)
    (refine nx (aM (gN rfl) rfl rfl rfl rfl rfl) rfl ?_)
    (refine nx (aM (gN rfl) rfl rfl rfl rfl rfl) rfl ?_)
    (refine nx (aM (gN rfl) rfl rfl rfl rfl rfl) rfl ?_)
    (refine nx (a_index (j := k) (gN rfl) rfl rfl rfl rfl rfl rfl rfl rfl rfl (hx') rfl (hsz)) rfl ?_)
    (refine nx (a_field_ad (gN rfl) rfl rfl rfl rfl rfl rfl rfl rfl rfl rfl rfl) rfl ?_)
    (refine nx (a_load_ad (gN rfl) rfl rfl rfl rfl rfl rfl rfl rfl rfl) rfl ?_)
    (refine nx (a_call (gN rfl) rfl rfl rfl rfl rfl (refApply_abs w s (by omega) x.a r1 o1)) rfl ?_)
    (refine nx (aM (gN rfl) rfl rfl rfl rfl rfl) rfl ?_)
    (refine nx (aM (gN rfl) rfl rfl rfl rfl rfl) rfl ?_)
    (refine nx (aM (gN rfl) rfl rfl rfl rfl rfl) rfl ?_)
    (refine nx (a_index (j := k) (gN rfl) rfl rfl rfl rfl rfl rfl rfl rfl rfl (hx') rfl (hsz)) rfl ?_)
    (refine nx (a_field_ad (gN rfl) rfl rfl rfl rfl rfl rfl rfl rfl rfl rfl rfl) rfl ?_)
    (refine nx (a_load_ad (gN rfl) rfl rfl rfl rfl rfl rfl rfl rfl rfl) rfl ?_)
    (refine nx (a_call (gN rfl) rfl rfl rfl rfl rfl (refApply_abs w s (by omega) x.b r2 o2)) rfl ?_)
    (refine nx (a_build (gN rfl) rfl rfl rfl rfl rfl rfl rfl rfl rfl rfl rfl) rfl ?_)
    (refine nx (a_bslice (gN rfl) rfl rfl rfl rfl rfl rfl rfl rfl rfl rfl rfl rfl rfl) rfl ?_)
    (refine nx (a_app (gN rfl) rfl rfl rfl rfl rfl rfl rfl rfl rfl rfl rfl rfl rfl rfl rfl (by first | assumption | exact sZ rfl | exact Tm.size_all _ | exact Bd.size_all _ | exact ints_size _ | exact bys_size _ | exact Lt.size_all _) (by first | assumption | exact sZ rfl | exact Tm.size_all _ | exact Bd.size_all _ | exact ints_size _ | exact bys_size _ | exact Lt.size_all _) (by first | omega | (simp only [List.length_map, List.length_append, List.length_cons, List.length_nil] <;> omega) | (simp <;> omega))) rfl ?_)
    (refine nx (aA (gN rfl) rfl rfl rfl rfl rfl) rfl ?_)
    refine ⟨by kernel_rfl, ?_⟩
    show AWp _ _ _ _ _ _ _
    refine aR ?_
    (refine nx (aM (gN rfl) rfl rfl rfl rfl rfl) rfl ?_)
    (refine nx (a_add (gN rfl) rfl rfl rfl rfl rfl rfl (by first | omega | (simp only [List.length_map, List.length_append, List.length_cons, List.length_nil] <;> omega) | (simp <;> omega))) rfl ?_)
    (refine nx (aA (gN rfl) rfl rfl rfl rfl rfl) rfl ?_)
    refine ⟨hkl, Wk.trans (wk_sub (s' := [(0, .val (.lst (s.map Bd.cv))), (1, .val (.lst (c.map Lt.cv))), (5, .own (.lst (((c.take (k + 1)).map (appL s)).map Lt.cv)) 300035), (300035, .tok 53 5), (6, .val (.i ((k + 1 : Nat) : Int)))]) ⟨rfl, rfl, ?_, rfl, rfl, trivial⟩) (wk_ren 300035 200035 rfl rfl rfl rfl)⟩
    rw [hst]
    rfl
  · have hkl : k = c.length := by
      have : ¬ k < c.length := by simpa using hlt
      omega
    subst hkl
    rw [List.take_length]
    refine aE ?_
    show AWp _ _ _ _ _ _ _
    refine aS (aR ?_)
    (refine nx (aM (gN rfl) rfl rfl rfl rfl rfl) rfl ?_)
    (refine nx (aA (gN rfl) rfl rfl rfl rfl rfl) rfl ?_)
    show AWp _ _ _ _ _ _ _
    exact aT (And.intro (.inr rfl) rfl)
-- 
theorem rWithout_abs (W : World) (c : List Lt) (i : Int) (hl : c.length ≤ 100000) : AFun Tryz.prog W 19 [.lst (c.map Lt.cv), .i i] (.val (.lst ((offD c i c.length).map Lt.cv))) := by
  have hsz := Lt.size_all c
  refine afun_of (rs := [.lst ((offD c i c.length).map Lt.cv)]) Tryz.func19 Tryz.ntmps19 rfl rfl rfl rfl ?_
  intro w U hW
  refine aS (aR ?_)
  (refine nx (aA (gN rfl) rfl rfl rfl rfl rfl) rfl ?_)
  show AWp _ _ _ _ _ _ _
  refine aS (aR ?_)
  (refine nx (aA (gN rfl) rfl rfl rfl rfl rfl) rfl ?_)
  show AWp _ _ _ _ _ _ _
  refine aS (aS (aR ?_))
  (refine nx (aA (gN rfl) rfl rfl rfl rfl rfl) rfl ?_)
  show AWp _ _ _ _ _ _ _
  refine aB (awp_count c.length (fun k => [(0, .val (.lst (c.map Lt.cv))), (1, .val (.i i)), (5, .own (.lst ((offD c i k).map Lt.cv)) 200022), (200022, .tok 53 5), (6, .val (.i k))]) ((wk_nil 5 200022 53 5 rfl rfl rfl rfl rfl rfl rfl).trans (wk_sub ⟨rfl, rfl, rfl, rfl, rfl, trivial⟩)) ?_)
  intro k hk
  have hks := Lt.size_all (offD c i k)
  refine aS (aS (aR ?_))
  (refine nx (aM (gN rfl) rfl rfl rfl rfl rfl) rfl ?_)
  (refine nx (aM (gN rfl) rfl rfl rfl rfl rfl) rfl ?_)
  (refine nx (a_len (gN rfl) rfl rfl rfl rfl rfl rfl rfl) rfl ?_)
  (refine nx (a_lss (gN rfl) rfl rfl rfl rfl rfl rfl) rfl ?_)
  show AWp _ _ _ _ _ _ _
  refine aC rfl (fun hlt => ?_) (fun hlt => ?_)
  · have hkl : k < c.length := by simpa using hlt
    obtain ⟨x, hx⟩ : ∃ x, c[k]? = some x := ⟨c[k], List.getElem?_eq_getElem hkl⟩
    have hx' := Lt.map_at hx
    have hS := offD_succ (i := i) hx
    have hkn2 : (offD c i k).length ≤ 100000 := Nat.le_trans (offD_len c i k) (by omega)
    have hkn : ((offD c i k).map Lt.cv).length ≤ 100000 := by rw [List.length_map]; exact hkn2
    refine aK ?_
    show AWp _ _ _ _ _ _ _
    refine aS (aB (aS (aR ?_)))
    (refine nx (aM (gN rfl) rfl rfl rfl rfl rfl) rfl ?_)
    (refine nx (aM (gN rfl) rfl rfl rfl rfl rfl) rfl ?_)
    (refine nx (a_neq (gN rfl) rfl rfl rfl rfl rfl rfl) rfl ?_)
    show AWp _ _ _ _ _ _ _
    refine aC rfl (fun hq => ?_) (fun hq => ?_)
    · have hq : ¬ (k : Int) = i := by simpa using hq
      rw [if_neg hq] at hS
      refine aR ?_
      (refine nx (aM (gN rfl) rfl rfl rfl rfl rfl) rfl ?_)
      (refine nx (aM (gN rfl) rfl rfl rfl rfl rfl) rfl ?_)
      (refine nx (aM (gN rfl) rfl rfl rfl rfl rfl) rfl ?_)
      (refine nx (a_index (j := k) (gN rfl) rfl rfl rfl rfl rfl rfl rfl rfl rfl (hx') rfl (hsz)) rfl ?_)
      (refine nx (a_load_ad (gN rfl) rfl rfl rfl rfl rfl rfl rfl rfl rfl) rfl ?_)
      (refine nx (a_bslice (gN rfl) rfl rfl rfl rfl rfl rfl rfl rfl rfl rfl rfl rfl rfl) rfl ?_)
      (refine nx (a_app (gN rfl) rfl rfl rfl rfl rfl rfl rfl rfl rfl rfl rfl rfl rfl rfl rfl (by first | assumption | exact sZ rfl | exact Tm.size_all _ | exact Bd.size_all _ | exact ints_size _ | exact bys_size _ | exact Lt.size_all _) (by first | assumption | exact sZ rfl | exact Tm.size_all _ | exact Bd.size_all _ | exact ints_size _ | exact bys_size _ | exact Lt.size_all _) (by first | omega | (simp only [List.length_map, List.length_append, List.length_cons, List.length_nil] <;> omega) | (simp <;> omega))) rfl ?_)
      (refine nx (aA (gN rfl) rfl rfl rfl rfl rfl) rfl ?_)
      show AWp _ _ _ _ _ _ _
      refine aR ?_
      (refine nx (aM (gN rfl) rfl rfl rfl rfl rfl) rfl ?_)
      (refine nx (a_add (gN rfl) rfl rfl rfl rfl rfl rfl (by first | omega | (simp only [List.length_map, List.length_append, List.length_cons, List.length_nil] <;> omega) | (simp <;> omega))) rfl ?_)
      (refine nx (aA (gN rfl) rfl rfl rfl rfl rfl) rfl ?_)
      refine ⟨hkl, Wk.trans (wk_sub (s' := [(0, .val (.lst (c.map Lt.cv))), (1, .val (.i i)), (5, .own (.lst ((offD c i (k + 1)).map Lt.cv)) 300022), (300022, .tok 53 5), (6, .val (.i ((k + 1 : Nat) : Int)))]) ⟨rfl, rfl, ?_, rfl, rfl, trivial⟩) (wk_ren 300022 200022 rfl rfl rfl rfl)⟩
      show some (AV.own (.lst _) _) = some (AV.own (.lst _) _)
      rw [hS, List.map_append]; rfl
    · have hq : (k : Int) = i := by simpa using hq
      rw [if_pos hq, List.append_nil] at hS
      refine aK ?_
      show AWp _ _ _ _ _ _ _
      refine aR ?_
      (refine nx (aM (gN rfl) rfl rfl rfl rfl rfl) rfl ?_)
      (refine nx (a_add (gN rfl) rfl rfl rfl rfl rfl rfl (by first | omega | (simp only [List.length_map, List.length_append, List.length_cons, List.length_nil] <;> omega) | (simp <;> omega))) rfl ?_)
      (refine nx (aA (gN rfl) rfl rfl rfl rfl rfl) rfl ?_)
      refine ⟨hkl, wk_sub ⟨rfl, rfl, ?_, rfl, rfl, trivial⟩⟩
      show some (AV.own (.lst _) _) = some (AV.own (.lst _) _)
      rw [hS]
  · have hkl : k = c.length := by
      have : ¬ k < c.length := by simpa using hlt
      omega
    subst hkl
    refine aE ?_
    show AWp _ _ _ _ _ _ _
    refine aS (aR ?_)
    (refine nx (aM (gN rfl) rfl rfl rfl rfl rfl) rfl ?_)
    (refine nx (aA (gN rfl) rfl rfl rfl rfl rfl) rfl ?_)
    show AWp _ _ _ _ _ _ _
    exact aT (And.intro (.inr rfl) rfl)
-- 
theorem rWithoutO_abs (c : List Lt) (i : Int) (hl : c.length ≤ 100000) : AFunO Tryz.prog 19 [] [.val (.lst (c.map Lt.cv)), .val (.i i)] (.sl 300107 0 (offD c i c.length).length 5) [(300107, .mrow 53 5 ((offD c i c.length).map Lt.cv))] := by
  have hsz := Lt.size_all c
  refine afunO_of Tryz.func19 Tryz.ntmps19 rfl rfl rfl rfl rfl rfl ?_
  intro w U hU
  refine aS (aR ?_)
  (refine nx (aA (gN rfl) rfl rfl rfl rfl rfl) rfl ?_)
  show AWp _ _ _ _ _ _ _
  refine aS (aR ?_)
  (refine nx (aA (gN rfl) rfl rfl rfl rfl rfl) rfl ?_)
  show AWp _ _ _ _ _ _ _
  refine aS (aS (aR ?_))
  (refine nx (aA (gN rfl) rfl rfl rfl rfl rfl) rfl ?_)
  show AWp _ _ _ _ _ _ _
  refine aB (awp_count c.length (fun k => [(0, .val (.lst (c.map Lt.cv))), (1, .val (.i i)), (5, .sl 300107 0 (offD c i k).length 5), (300107, .mrow 53 5 ((offD c i k).map Lt.cv)), (6, .val (.i k))]) ((wk_nilM 5 300107 53 5 rfl rfl rfl rfl rfl).trans (wk_sub ⟨rfl, rfl, rfl, rfl, rfl, trivial⟩)) ?_)
  intro k hk
  have hks := Lt.size_all (offD c i k)
  refine aS (aS (aR ?_))
  (refine nx (aM (gN rfl) rfl rfl rfl rfl rfl) rfl ?_)
  (refine nx (aM (gN rfl) rfl rfl rfl rfl rfl) rfl ?_)
  (refine nx (a_len (gN rfl) rfl rfl rfl rfl rfl rfl rfl) rfl ?_)
  (refine nx (a_lss (gN rfl) rfl rfl rfl rfl rfl rfl) rfl ?_)
  show AWp _ _ _ _ _ _ _
  refine aC rfl (fun hlt => ?_) (fun hlt => ?_)
  · have hkl : k < c.length := by simpa using hlt
    obtain ⟨x, hx⟩ : ∃ x, c[k]? = some x := ⟨c[k], List.getElem?_eq_getElem hkl⟩
    have hx' := Lt.map_at hx
    have hS := offD_succ (i := i) hx
    have hlm : ((offD c i k).map Lt.cv).length = (offD c i k).length := List.length_map ..
    have hkn : (offD c i k).length ≤ 100000 := Nat.le_trans (offD_len c i k) (by omega)
    refine aK ?_
    show AWp _ _ _ _ _ _ _
    refine aS (aB (aS (aR ?_)))
    (refine nx (aM (gN rfl) rfl rfl rfl rfl rfl) rfl ?_)
    (refine nx (aM (gN rfl) rfl rfl rfl rfl rfl) rfl ?_)
    (refine nx (a_neq (gN rfl) rfl rfl rfl rfl rfl rfl) rfl ?_)
    show AWp _ _ _ _ _ _ _
    refine aC rfl (fun hq => ?_) (fun hq => ?_)
    · have hq : ¬ (k : Int) = i := by simpa using hq
      rw [if_neg hq] at hS
      refine aR ?_
      (refine nx (aM (gN rfl) rfl rfl rfl rfl rfl) rfl ?_)
      (refine nx (aM (gN rfl) rfl rfl rfl rfl rfl) rfl ?_)
      (refine nx (aM (gN rfl) rfl rfl rfl rfl rfl) rfl ?_)
      (refine nx (a_index (j := k) (gN rfl) rfl rfl rfl rfl rfl rfl rfl rfl rfl (hx') rfl (hsz)) rfl ?_)
      (refine nx (a_load_ad (gN rfl) rfl rfl rfl rfl rfl rfl rfl rfl rfl) rfl ?_)
      (refine nx (a_bslice (gN rfl) rfl rfl rfl rfl rfl rfl rfl rfl rfl rfl rfl rfl rfl) rfl ?_)
      (refine nx (a_appM 300108 (gN rfl) rfl rfl rfl rfl rfl rfl rfl rfl rfl rfl rfl rfl rfl (by first | rfl | omega | (simp only [List.length_set, List.length_map, List.length_append, List.length_cons, List.length_nil] <;> omega) | (simp <;> omega)) (by first | assumption | exact sZ rfl | exact Tm.size_all _ | exact Bd.size_all _ | exact ints_size _ | exact bys_size _ | exact Lt.size_all _) (by first | omega | (simp only [List.length_map, List.length_append, List.length_cons, List.length_nil] <;> omega) | (simp <;> omega))) rfl ?_)
      (refine nx (aA (gN rfl) rfl rfl rfl rfl rfl) rfl ?_)
      show AWp _ _ _ _ _ _ _
      refine aR ?_
      (refine nx (aM (gN rfl) rfl rfl rfl rfl rfl) rfl ?_)
      (refine nx (a_add (gN rfl) rfl rfl rfl rfl rfl rfl (by first | omega | (simp only [List.length_map, List.length_append, List.length_cons, List.length_nil] <;> omega) | (simp <;> omega))) rfl ?_)
      (refine nx (aA (gN rfl) rfl rfl rfl rfl rfl) rfl ?_)
      refine ⟨hkl, Wk.trans (wk_sub (s' := [(0, .val (.lst (c.map Lt.cv))), (1, .val (.i i)), (5, .sl 300108 0 (offD c i (k + 1)).length 5), (300108, .mrow 53 5 ((offD c i (k + 1)).map Lt.cv)), (6, .val (.i ((k + 1 : Nat) : Int)))]) ⟨rfl, rfl, ?_, ?_, rfl, trivial⟩) (wk_ren 300108 300107 rfl rfl (by kernel_rfl) (by kernel_rfl))⟩
      · show some (AV.sl _ _ _ _) = some (AV.sl _ _ _ _)
        rw [hS, List.length_append, ← hlm]; rfl
      · show some (AV.mrow _ _ _) = some (AV.mrow _ _ _)
        rw [hS, List.map_append]; rfl
    · have hq : (k : Int) = i := by simpa using hq
      rw [if_pos hq, List.append_nil] at hS
      refine aK ?_
      show AWp _ _ _ _ _ _ _
      refine aR ?_
      (refine nx (aM (gN rfl) rfl rfl rfl rfl rfl) rfl ?_)
      (refine nx (a_add (gN rfl) rfl rfl rfl rfl rfl rfl (by first | omega | (simp only [List.length_map, List.length_append, List.length_cons, List.length_nil] <;> omega) | (simp <;> omega))) rfl ?_)
      (refine nx (aA (gN rfl) rfl rfl rfl rfl rfl) rfl ?_)
      refine ⟨hkl, wk_sub ⟨rfl, rfl, ?_, ?_, rfl, trivial⟩⟩
      · show some (AV.sl _ _ _ _) = some (AV.sl _ _ _ _)
        rw [hS]
      · show some (AV.mrow _ _ _) = some (AV.mrow _ _ _)
        rw [hS]
  · have hkl : k = c.length := by
      have : ¬ k < c.length := by simpa using hlt
      omega
    subst hkl
    refine aE ?_
    show AWp _ _ _ _ _ _ _
    refine aS (aR ?_)
    (refine nx (aM (gN rfl) rfl rfl rfl rfl rfl) rfl ?_)
    (refine nx (aA (gN rfl) rfl rfl rfl rfl rfl) rfl ?_)
    show AWp _ _ _ _ _ _ _
    exact aT ⟨.inr rfl, _, Wk.refl _, rfl, rfl, trivial⟩
-- 
theorem rLooked_abs (W : World) (c : List Lt) (i : Int) (hl : c.length ≤ 100) (hc : ∀ l ∈ c, l.fit) : AFun Tryz.prog W 31 [.lst (c.map Lt.cv), .i i] (.val (.b (decide (i ∈ lokL c)))) := by
  have hLk := fun w => rLook14_abs w c (by omega) hc
  have hLl : (lokL c).length ≤ 101 := by
    unfold lokL
    split
    · simp
    · have := gsK_len c c.length; omega
  obtain ⟨L, hL⟩ : ∃ L, L = lokL c := ⟨_, rfl⟩
  rw [← hL] at hLk hLl ⊢
  have hszL := ints_size L
  refine afun_of (rs := [.b (decide (i ∈ L))]) Tryz.func31 Tryz.ntmps31 rfl rfl rfl rfl ?_
  intro w U hW
  refine aS (aR ?_)
  (refine nx (aA (gN rfl) rfl rfl rfl rfl rfl) rfl ?_)
  show AWp _ _ _ _ _ _ _
  refine aS (aR ?_)
  (refine nx (aM (gN rfl) rfl rfl rfl rfl rfl) rfl ?_)
  (refine nx (a_call (gN rfl) rfl rfl rfl rfl rfl (hLk w)) rfl ?_)
  (refine nx (aA (gN rfl) rfl rfl rfl rfl rfl) rfl ?_)
  show AWp _ _ _ _ _ _ _
  refine aS (aS (aR ?_))
  (refine nx (aA (gN rfl) rfl rfl rfl rfl rfl) rfl ?_)
  show AWp _ _ _ _ _ _ _
  refine aB (awp_countI L.length (fun k => i ∉ L.take k) (fun k => [(1, .val (.i i)), (5, .val (.lst (L.map CV.i))), (6, .val (.i k))]) (wk_sub ⟨rfl, rfl, rfl, trivial⟩) (by simp) ?_)
  intro k hk hI
  refine aS (aS (aR ?_))
  (refine nx (aM (gN rfl) rfl rfl rfl rfl rfl) rfl ?_)
  (refine nx (aM (gN rfl) rfl rfl rfl rfl rfl) rfl ?_)
  (refine nx (a_len (gN rfl) rfl rfl rfl rfl rfl rfl rfl) rfl ?_)
  (refine nx (a_lss (gN rfl) rfl rfl rfl rfl rfl rfl) rfl ?_)
  show AWp _ _ _ _ _ _ _
  refine aC rfl (fun hlt => ?_) (fun hlt => ?_)
  · have hkl : k < L.length := by simpa using hlt
    obtain ⟨u, hu⟩ : ∃ u, L[k]? = some u := ⟨L[k], List.getElem?_eq_getElem hkl⟩
    have hu' := int_at hu
    refine aK ?_
    show AWp _ _ _ _ _ _ _
    refine aS (aB (aS (aR ?_)))
    (refine nx (aM (gN rfl) rfl rfl rfl rfl rfl) rfl ?_)
    (refine nx (aM (gN rfl) rfl rfl rfl rfl rfl) rfl ?_)
    (refine nx (a_index (j := k) (gN rfl) rfl rfl rfl rfl rfl rfl rfl rfl rfl (hu') rfl (hszL)) rfl ?_)
    (refine nx (a_load_ad (gN rfl) rfl rfl rfl rfl rfl rfl rfl rfl rfl) rfl ?_)
    (refine nx (aM (gN rfl) rfl rfl rfl rfl rfl) rfl ?_)
    (refine nx (a_eql (gN rfl) rfl rfl rfl rfl rfl rfl) rfl ?_)
    show AWp _ _ _ _ _ _ _
    refine aC rfl (fun hq => ?_) (fun hq => ?_)
    · have hq : u = i := by simpa using hq
      rw [decide_eq_true (by rw [← hq]; exact List.mem_of_getElem? hu)]
      refine aS (aR ?_)
      (refine nx (aA (gN rfl) rfl rfl rfl rfl rfl) rfl ?_)
      show AWp _ _ _ _ _ _ _
      exact aT (And.intro (.inr rfl) rfl)
    · have hq : ¬ u = i := by simpa using hq
      refine aK ?_
      show AWp _ _ _ _ _ _ _
      refine aR ?_
      (refine nx (aM (gN rfl) rfl rfl rfl rfl rfl) rfl ?_)
      (refine nx (a_add (gN rfl) rfl rfl rfl rfl rfl rfl (by first | omega | (simp only [List.length_map, List.length_append, List.length_cons, List.length_nil] <;> omega) | (simp <;> omega))) rfl ?_)
      (refine nx (aA (gN rfl) rfl rfl rfl rfl rfl) rfl ?_)
      refine ⟨hkl, ?_, wk_sub ⟨rfl, rfl, rfl, trivial⟩⟩
      show i ∉ L.take (k + 1)
      rw [List.take_add_one, hu, List.mem_append]
      rintro (h | h)
      · exact hI h
      · simp at h; exact hq h.symm
  · have hkl : k = L.length := by
      have : ¬ k < L.length := by simpa using hlt
      omega
    subst hkl
    rw [List.take_length] at hI
    rw [decide_eq_false hI]
    refine aE ?_
    show AWp _ _ _ _ _ _ _
    refine aS (aR ?_)
    (refine nx (aA (gN rfl) rfl rfl rfl rfl rfl) rfl ?_)
    show AWp _ _ _ _ _ _ _
    exact aT (And.intro (.inr rfl) rfl)
-- 
theorem rSide_abs (W : World) (l : Lt) (n : Nat) : AFun Tryz.prog W 34 [l.cw, .i (n : Int)] (.val (sdT l n).cw) := by
  refine afun_of (rs := [(sdT l n).cw]) Tryz.func34 Tryz.ntmps34 rfl rfl rfl rfl ?_
  intro w U hW
  refine aS (aR ?_)
  (refine nx (a_box (gN rfl) rfl rfl rfl rfl rfl) rfl ?_)
  (refine nx (a_alloc (gN rfl) rfl rfl rfl rfl rfl rfl rfl rfl rfl rfl) rfl ?_)
  show AWp _ _ _ _ _ _ _
  refine aS (aS (aR ?_))
  (refine nx (aM (gN rfl) rfl rfl rfl rfl rfl) rfl ?_)
  (refine nx (a_eql (gN rfl) rfl rfl rfl rfl rfl rfl) rfl ?_)
  show AWp _ _ _ _ _ _ _
  refine aC rfl (fun hc => ?_) (fun hc => ?_)
  · have hc : (n : Int) = 0 := by simpa using hc
    have e : sdT l n = l.a := by unfold sdT; rw [if_pos (by omega)]
    rw [e]
    refine aS (aR ?_)
    (refine nx (aF (gN rfl) rfl rfl rfl rfl rfl rfl rfl rfl rfl) rfl ?_)
    (refine nx (aLb (gN rfl) rfl rfl rfl rfl rfl rfl rfl rfl rfl rfl rfl rfl) rfl ?_)
    (refine nx (aSt (gN rfl) rfl rfl rfl rfl rfl rfl rfl rfl rfl rfl) rfl ?_)
    show AWp _ _ _ _ _ _ _
    exact aT (And.intro (.inr rfl) rfl)
  · have hc : ¬ (n : Int) = 0 := by simpa using hc
    have e : sdT l n = l.b := by unfold sdT; rw [if_neg (by omega)]
    rw [e]
    refine aK ?_
    show AWp _ _ _ _ _ _ _
    refine aS (aR ?_)
    (refine nx (aF (gN rfl) rfl rfl rfl rfl rfl rfl rfl rfl rfl) rfl ?_)
    (refine nx (aLb (gN rfl) rfl rfl rfl rfl rfl rfl rfl rfl rfl rfl rfl rfl) rfl ?_)
    (refine nx (aSt (gN rfl) rfl rfl rfl rfl rfl rfl rfl rfl rfl rfl) rfl ?_)
    show AWp _ _ _ _ _ _ _
    exact aT (And.intro (.inr rfl) rfl)
end Go.Proofs.YtglmoficcjphaaaGreat
namespace Go.Proofs.YtglmoficcjphaaaGreat
open Go.RowKit
set_option linter.unusedVariables false
set_option linter.unusedSimpArgs false
abbrev sv (l : List UInt8) : CV := .sc (.string ⟨l.toArray⟩)
section
variable {P : Program} {w0 : World} {U0 : UX} {nt : Nat} {ops : Array Oper} {o : Oper} {S : Nat → Option AV} {gs : List Nat} {d : Nat}
end
section
variable {P : Program} {w0 : World} {U0 : UX} {nt : Nat} {ops : Array Oper} {o : Oper} {S : Nat → Option AV} {gs : List Nat} {d : Nat}
theorem a_quo (hg : Gd w0 U0 nt ops o gs S) (hd : o.dst = some d) (hn : Nat.blt d nt = true) (h5 : Nat.blt d 100000 = true) {x y : Operand} {t1 t2 : TypeId} {k : IntKind} {i j : Int} {n q p n' q' p'} (ho : o.op = .binOp .quo t1 x y t2) (hx : ev S x = some ⟨0, .sc (.int k i), n, q, p⟩) (hy : ev S y = some ⟨0, .sc (.int k j), n', q', p'⟩) (hr : j ≠ 0) (hw : k.wrap (i.tdiv j) = i.tdiv j) : AOp P w0 U0 nt ops o (gs ++ (rd x ++ rd y)) [] S [(d, .val (.sc (.int k (i.tdiv j))))] :=
  aop_int2 hg hd hn h5 ho hx hy (fun w => by simp [binOp, Op.intDiv, hr, hw, go_sem]) rfl
end
end Go.Proofs.YtglmoficcjphaaaGreat
