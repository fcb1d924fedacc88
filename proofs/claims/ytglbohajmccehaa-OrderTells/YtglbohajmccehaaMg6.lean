/-
  OrRef OrRef2 OrCom OrLw AbIdx
-/
import Derived.Test.YtglbohajmccehaaMg5
import Derived.Test.YtglbohajmccehaaMg3
namespace Go.Proofs.Ytglbohajmccehaa
open Go.RowKit
set_option linter.unusedVariables false
set_option linter.unusedSimpArgs false
set_option maxRecDepth 100000
-- 
theorem rTms_abs (W : World) (l : Lt) : AFun Try.prog W 14 [l.cw] (.val (.lst ((tmsL l).map Tm.cv))) := by
  refine afun_of (rs := [.lst ((tmsL l).map Tm.cv)]) Try.func14 Try.ntmps14 rfl rfl rfl rfl ?_
  intro w U hW
  refine aS (aR ?_)
  (refine nx (a_box (gN rfl) rfl rfl rfl rfl rfl) rfl ?_)
  (refine nx (aA (gN rfl) rfl rfl rfl rfl rfl) rfl ?_)
  show AWp _ _ _ _ _ _ _
  refine aS (aS (aR ?_))
  (refine nx (aF (gN rfl) rfl rfl rfl rfl rfl rfl rfl rfl rfl) rfl ?_)
  (refine nx (aLb (gN rfl) rfl rfl rfl rfl rfl rfl rfl rfl rfl rfl rfl rfl) rfl ?_)
  show AWp _ _ _ _ _ _ _
  refine aC rfl (fun hc => ?_) (fun hc => ?_)
  · have hc : l.neg = true := hc
    have e : CV.lst ((tmsL l).map Tm.cv) = .lst [l.a.cw, l.a.cw, l.b.cw, l.b.cw] := by unfold tmsL; rw [if_pos hc]; simp only [List.map_cons, List.map_nil, Tm.cv_eq]
    rw [e]
    refine aS (aR ?_)
    (refine nx (aF (gN rfl) rfl rfl rfl rfl rfl rfl rfl rfl rfl) rfl ?_)
    (refine nx (aLb (gN rfl) rfl rfl rfl rfl rfl rfl rfl rfl rfl rfl rfl rfl) rfl ?_)
    (refine nx (aF (gN rfl) rfl rfl rfl rfl rfl rfl rfl rfl rfl) rfl ?_)
    (refine nx (aLb (gN rfl) rfl rfl rfl rfl rfl rfl rfl rfl rfl rfl rfl rfl) rfl ?_)
    (refine nx (aF (gN rfl) rfl rfl rfl rfl rfl rfl rfl rfl rfl) rfl ?_)
    (refine nx (aLb (gN rfl) rfl rfl rfl rfl rfl rfl rfl rfl rfl rfl rfl rfl) rfl ?_)
    (refine nx (aF (gN rfl) rfl rfl rfl rfl rfl rfl rfl rfl rfl) rfl ?_)
    (refine nx (aLb (gN rfl) rfl rfl rfl rfl rfl rfl rfl rfl rfl rfl rfl rfl) rfl ?_)
    (refine nx (a_bslice (gN rfl) rfl rfl rfl rfl rfl rfl rfl rfl rfl rfl rfl rfl rfl) rfl ?_)
    (refine nx (aA (gN rfl) rfl rfl rfl rfl rfl) rfl ?_)
    show AWp _ _ _ _ _ _ _
    exact aT (And.intro (.inr rfl) rfl)
  · have hc : l.neg = false := hc
    have e : CV.lst ((tmsL l).map Tm.cv) = .lst [l.a.cw, l.b.cw] := by unfold tmsL; rw [if_neg (by rw [hc]; decide)]; simp only [List.map_cons, List.map_nil, Tm.cv_eq]
    rw [e]
    refine aK ?_
    show AWp _ _ _ _ _ _ _
    refine aS (aR ?_)
    (refine nx (aF (gN rfl) rfl rfl rfl rfl rfl rfl rfl rfl rfl) rfl ?_)
    (refine nx (aLb (gN rfl) rfl rfl rfl rfl rfl rfl rfl rfl rfl rfl rfl rfl) rfl ?_)
    (refine nx (aF (gN rfl) rfl rfl rfl rfl rfl rfl rfl rfl rfl) rfl ?_)
    (refine nx (aLb (gN rfl) rfl rfl rfl rfl rfl rfl rfl rfl rfl rfl rfl rfl) rfl ?_)
    (refine nx (a_bslice (gN rfl) rfl rfl rfl rfl rfl rfl rfl rfl rfl rfl rfl rfl rfl) rfl ?_)
    (refine nx (aA (gN rfl) rfl rfl rfl rfl rfl) rfl ?_)
    show AWp _ _ _ _ _ _ _
    exact aT (And.intro (.inr rfl) rfl)

def htK (h : Option Nat) (k : Nat) : Bool := match h with | some i => decide (i < k) | none => false
def usK (h : Option Nat) (u : List Bool) (k : Nat) : List Bool := match h with | some i => if i < k then u.set i true else u | none => u
theorem htK_zero (h : Option Nat) : htK h 0 = false := by cases h <;> rfl
theorem usK_zero (h : Option Nat) (u : List Bool) : usK h u 0 = u := by cases h <;> rfl
theorem ht_yes {h : Option Nat} {k : Nat} (e : htK h k = true) (u : List Bool) : htK h (k + 1) = true ∧ usK h u (k + 1) = usK h u k := by
  cases h with
  | none => cases e
  | some i =>
    have hi : i < k := by simpa [htK] using e
    exact ⟨by simp [htK]; omega, by simp only [usK]; rw [if_pos (by omega), if_pos hi]⟩
theorem ht_no {h : Option Nat} {k : Nat} (e : htK h k = false) (u : List Bool) : usK h u k = u := by
  cases h with
  | none => rfl
  | some i =>
    have hi : ¬ i < k := by simpa [htK] using e
    simp only [usK]; rw [if_neg hi]
theorem ht_next {h : Option Nat} {k : Nat} (e : htK h k = false) (hn : h ≠ some k) (u : List Bool) : htK h (k + 1) = false ∧ usK h u (k + 1) = u := by
  cases h with
  | none => exact ⟨rfl, rfl⟩
  | some i =>
    have hi : ¬ i < k := by simpa [htK] using e
    have hik : i ≠ k := fun h => hn (by rw [h])
    exact ⟨by simp [htK]; omega, by simp only [usK]; rw [if_neg (by omega)]⟩
theorem ht_here {k : Nat} (u : List Bool) : htK (some k) (k + 1) = true ∧ usK (some k) u (k + 1) = u.set k true := ⟨by simp [htK], by simp only [usK]; rw [if_pos (by omega)]⟩
theorem hit_at {b : List Tm} {u : List Bool} {t : Tm} {k : Nat} {y : Tm} {f : Bool} (hy : b[k]? = some y) (hu : u[k]? = some f) (e : htK (hitI b u t) k = false) : hitI b u t = some k ↔ (!f && sameT t y) = true := by
  have hz : (b.zip u)[k]? = some (y, f) := by rw [List.getElem?_zip_eq_some]; exact ⟨hy, hu⟩
  obtain ⟨hk, hke⟩ := List.getElem?_eq_some_iff.1 hz
  constructor
  · intro h
    unfold hitI at h
    obtain ⟨h1, h2, _⟩ := List.findIdx?_eq_some_iff_getElem.1 h
    rw [hke] at h2
    exact h2
  · intro h
    cases hh : hitI b u t with
    | none =>
      unfold hitI at hh
      have := List.findIdx?_eq_none_iff.1 hh _ (List.mem_of_getElem? hz)
      rw [h] at this; cases this
    | some i =>
      rw [hh] at e
      have hi : ¬ i < k := by simpa [htK] using e
      unfold hitI at hh
      obtain ⟨h1, h2, h3⟩ := List.findIdx?_eq_some_iff_getElem.1 hh
      by_cases hik : k < i
      · have h4 := h3 k hik
        rw [hke] at h4
        exact absurd h h4
      · have : i = k := by omega
        rw [this]
theorem hit_lt {b : List Tm} {u : List Bool} {t : Tm} {i : Nat} (h : hitI b u t = some i) : i < b.length := by
  unfold hitI at h
  obtain ⟨h1, _⟩ := List.findIdx?_eq_some_iff_getElem.1 h
  rw [List.length_zip] at h1
  omega
theorem bls_at {u : List Bool} {k : Nat} {f : Bool} (h : u[k]? = some f) : (u.map CV.b)[k]? = some (.b f) := by rw [List.getElem?_map, h]; rfl
theorem usK_len (h : Option Nat) (u : List Bool) (k : Nat) : (usK h u k).length = u.length := by
  cases h with
  | none => rfl
  | some i => simp only [usK]; split <;> simp
-- 
theorem rLess14_abs (W : World) (a b : List Tm) (ha : ∀ t ∈ a, t.ok) (hb : ∀ t ∈ b, t.ok) (hal : a.length ≤ 100000) (hbl : b.length ≤ 100000) : AFun Try.prog W 40 [.lst (a.map Tm.cv), .lst (b.map Tm.cv)] (.val (.lst ((lessD a b).map Tm.cv))) := by
  have hsa := Tm.size_all a
  have hsb := Tm.size_all b
  refine afun_of (rs := [.lst ((lessD a b).map Tm.cv)]) Try.func40 Try.ntmps40 rfl rfl rfl rfl ?_
  intro w U hW
  refine aS (aR ?_)
  (refine nx (aA (gN rfl) rfl rfl rfl rfl rfl) rfl ?_)
  show AWp _ _ _ _ _ _ _
  refine aS (aR ?_)
  (refine nx (aM (gN rfl) rfl rfl rfl rfl rfl) rfl ?_)
  (refine nx (a_len (gN rfl) rfl rfl rfl rfl rfl rfl rfl) rfl ?_)
  (refine nx (a_mkM 300005 (k := b.length) (gN rfl) rfl rfl rfl rfl rfl rfl rfl rfl rfl rfl rfl rfl rfl rfl (by first | rfl | omega | (simp only [List.length_set, List.length_map, List.length_append, List.length_cons, List.length_nil] <;> omega) | (simp <;> omega)) (by first | rfl | omega | (simp only [List.length_set, List.length_map, List.length_append, List.length_cons, List.length_nil] <;> omega) | (simp <;> omega)) rfl (by first | rfl | omega | (simp only [List.length_set, List.length_map, List.length_append, List.length_cons, List.length_nil] <;> omega) | (simp <;> omega))) rfl ?_)
  (refine nx (aA (gN rfl) rfl rfl rfl rfl rfl) rfl ?_)
  show AWp _ _ _ _ _ _ _
  refine aS (aR ?_)
  (refine nx (aA (gN rfl) rfl rfl rfl rfl rfl) rfl ?_)
  show AWp _ _ _ _ _ _ _
  refine aS (aS (aR ?_))
  (refine nx (aA (gN rfl) rfl rfl rfl rfl rfl) rfl ?_)
  show AWp _ _ _ _ _ _ _
  let st : Nat → List Tm → List Bool → AS := fun i out u => [(0, .val (.lst (a.map Tm.cv))), (1, .val (.lst (b.map Tm.cv))), (5, .sl 300005 0 b.length 1), (300005, .mrow 4 1 (u.map CV.b)), (6, .own (.lst (out.map Tm.cv)) 200056), (200056, .tok 29 2), (7, .val (.i i))]
  refine aB (awp_loop (fun j s => ∃ i out u, j = a.length - i ∧ i ≤ a.length ∧ u.length = b.length ∧ out ++ lsD (a.drop i) b u = lessD a b ∧ out.length ≤ i ∧ s = st i out u) (s' := st 0 [] (List.replicate b.length false)) ((wk_nil 6 200056 29 2 rfl rfl rfl rfl rfl rfl rfl).trans (wk_sub ⟨rfl, rfl, rfl, ?_, rfl, rfl, rfl, trivial⟩)) ⟨0, [], _, rfl, Nat.zero_le _, by simp, rfl, Nat.le_refl _, rfl⟩ ?_)
  · show some (AV.mrow _ _ _) = some (AV.mrow _ _ _)
    rw [List.map_replicate]
    rfl
  rintro j s ⟨i, out, u, rfl, hi, hul, hout, hol, rfl⟩
  refine aS (aS (aR ?_))
  (refine nx (aM (gN rfl) rfl rfl rfl rfl rfl) rfl ?_)
  (refine nx (aM (gN rfl) rfl rfl rfl rfl rfl) rfl ?_)
  (refine nx (a_len (gN rfl) rfl rfl rfl rfl rfl rfl rfl) rfl ?_)
  (refine nx (a_lss (gN rfl) rfl rfl rfl rfl rfl rfl) rfl ?_)
  show AWp _ _ _ _ _ _ _
  refine aC rfl (fun hlt => ?_) (fun hlt => ?_)
  · have hil : i < a.length := by simpa using hlt
    obtain ⟨t, ht⟩ : ∃ t, a[i]? = some t := ⟨a[i], List.getElem?_eq_getElem hil⟩
    have ht' := Tm.map_at ht
    have hto := ha t (List.mem_of_getElem? ht)
    have hdr : a.drop i = t :: a.drop (i + 1) := drop_atT ht
    obtain ⟨h, hh⟩ : ∃ h, h = hitI b u t := ⟨_, rfl⟩
    have hls1 : h = none → lsD (a.drop i) b u = t :: lsD (a.drop (i + 1)) b u := fun e => by rw [hdr, lsD, ← hh, e]
    have hls2 : ∀ k, h = some k → lsD (a.drop i) b u = lsD (a.drop (i + 1)) b (u.set k true) := fun k e => by rw [hdr, lsD, ← hh, e]
    refine aK ?_
    show AWp _ _ _ _ _ _ _
    refine aS (aB (aS (aR ?_)))
    (refine nx (aA (gN rfl) rfl rfl rfl rfl rfl) rfl ?_)
    show AWp _ _ _ _ _ _ _
    refine aS (aS (aR ?_))
    (refine nx (aA (gN rfl) rfl rfl rfl rfl rfl) rfl ?_)
    show AWp _ _ _ _ _ _ _
    let st2 : Nat → AS := fun k => [(0, .val (.lst (a.map Tm.cv))), (1, .val (.lst (b.map Tm.cv))), (5, .sl 300005 0 b.length 1), (300005, .mrow 4 1 ((usK h u k).map CV.b)), (6, .own (.lst (out.map Tm.cv)) 200056), (200056, .tok 29 2), (7, .val (.i i)), (8, .val (.b (htK h k))), (9, .val (.i k))]
    refine aB (awp_count b.length st2 (wk_sub ⟨rfl, rfl, rfl, by rw [usK_zero]; rfl, rfl, rfl, rfl, by rw [htK_zero]; rfl, rfl, trivial⟩) ?_)
    intro k hk
    have hulk := usK_len h u k
    refine aS (aS (aR ?_))
    (refine nx (aM (gN rfl) rfl rfl rfl rfl rfl) rfl ?_)
    (refine nx (aM (gN rfl) rfl rfl rfl rfl rfl) rfl ?_)
    (refine nx (a_len (gN rfl) rfl rfl rfl rfl rfl rfl rfl) rfl ?_)
    (refine nx (a_lss (gN rfl) rfl rfl rfl rfl rfl rfl) rfl ?_)
    show AWp _ _ _ _ _ _ _
    refine aC rfl (fun hlt2 => ?_) (fun hlt2 => ?_)
    · have hkl : k < b.length := by simpa using hlt2
      obtain ⟨y, hy⟩ : ∃ y, b[k]? = some y := ⟨b[k], List.getElem?_eq_getElem hkl⟩
      have hy' := Tm.map_at hy
      have hyo := hb y (List.mem_of_getElem? hy)
      refine aK ?_
      show AWp _ _ _ _ _ _ _
      refine aS (aB ?_)
      cases hht : htK h k with
      | true =>
        obtain ⟨n1, n2⟩ := ht_yes hht u
        refine AWp.wk (wk_sub (s' := [(0, .val (.lst (a.map Tm.cv))), (1, .val (.lst (b.map Tm.cv))), (5, .sl 300005 0 b.length 1), (300005, .mrow 4 1 ((usK h u k).map CV.b)), (6, .own (.lst (out.map Tm.cv)) 200056), (200056, .tok 29 2), (7, .val (.i i)), (8, .val (.b true)), (9, .val (.i k))]) ⟨rfl, rfl, rfl, rfl, rfl, rfl, rfl, by rw [← hht]; rfl, rfl, trivial⟩) ?_
        refine aS (aD (by kernel_rfl) (by kernel_rfl) ?_)
        (refine nx (aM (gN rfl) rfl rfl rfl rfl rfl) rfl ?_)
        (refine nx (a_not (gN rfl) rfl rfl rfl rfl rfl) rfl ?_)
        (refine nx (aM (gN rfl) rfl rfl rfl rfl rfl) rfl ?_)
        (refine ⟨_, _, _, a_off (go_off rfl rfl rfl rfl (by first | rfl | assumption | (simp; done) | (simp [*]; done))) rfl rfl rfl, rfl, ?_⟩)
        (refine ⟨_, _, _, a_off (go_off rfl rfl rfl rfl (by first | rfl | assumption | (simp; done) | (simp [*]; done))) rfl rfl rfl, rfl, ?_⟩)
        (refine ⟨_, _, _, a_off (go_off rfl rfl rfl rfl (by first | rfl | assumption | (simp; done) | (simp [*]; done))) rfl rfl rfl, rfl, ?_⟩)
        (refine ⟨_, _, _, a_off (go_off rfl rfl rfl rfl (by first | rfl | assumption | (simp; done) | (simp [*]; done))) rfl rfl rfl, rfl, ?_⟩)
        (refine ⟨_, _, _, a_off (go_off rfl rfl rfl rfl (by first | rfl | assumption | (simp; done) | (simp [*]; done))) rfl rfl rfl, rfl, ?_⟩)
        (refine ⟨_, _, _, aPf (gN rfl) rfl rfl rfl rfl rfl ?hb rfl, rfl, ?_⟩; case hb => (first | rfl | assumption | (simp; done)))
        (refine nx (aM (gN rfl) rfl rfl rfl rfl rfl) rfl ?_)
        (refine ⟨_, _, _, a_off (go_off rfl rfl rfl rfl (by first | rfl | assumption | (simp; done) | (simp [*]; done))) rfl rfl rfl, rfl, ?_⟩)
        (refine ⟨_, _, _, a_off (go_off rfl rfl rfl rfl (by first | rfl | assumption | (simp; done) | (simp [*]; done))) rfl rfl rfl, rfl, ?_⟩)
        (refine ⟨_, _, _, a_off (go_off rfl rfl rfl rfl (by first | rfl | assumption | (simp; done) | (simp [*]; done))) rfl rfl rfl, rfl, ?_⟩)
        (refine ⟨_, _, _, a_off (go_off rfl rfl rfl rfl (by first | rfl | assumption | (simp; done) | (simp [*]; done))) rfl rfl rfl, rfl, ?_⟩)
        (refine ⟨_, _, _, a_off (go_off rfl rfl rfl rfl (by first | rfl | assumption | (simp; done) | (simp [*]; done))) rfl rfl rfl, rfl, ?_⟩)
        (refine ⟨_, _, _, a_off (go_off rfl rfl rfl rfl (by first | rfl | assumption | (simp; done) | (simp [*]; done))) rfl rfl rfl, rfl, ?_⟩)
        (refine ⟨_, _, _, a_off (go_off rfl rfl rfl rfl (by first | rfl | assumption | (simp; done) | (simp [*]; done))) rfl rfl rfl, rfl, ?_⟩)
        (refine ⟨_, _, _, a_off (go_off rfl rfl rfl rfl (by first | rfl | assumption | (simp; done) | (simp [*]; done))) rfl rfl rfl, rfl, ?_⟩)
        (refine ⟨_, _, _, a_off (go_off rfl rfl rfl rfl (by first | rfl | assumption | (simp; done) | (simp [*]; done))) rfl rfl rfl, rfl, ?_⟩)
        (refine ⟨_, _, _, aPf (gN rfl) rfl rfl rfl rfl rfl ?hb rfl, rfl, ?_⟩; case hb => (first | rfl | assumption | (simp; done)))
        refine ⟨by kernel_rfl, ?_⟩
        show AWp _ _ _ _ _ _ _
        refine aC rfl (fun h => by cases h) (fun _ => ?_)
        refine aK ?_
        show AWp _ _ _ _ _ _ _
        refine aR ?_
        (refine nx (aM (gN rfl) rfl rfl rfl rfl rfl) rfl ?_)
        (refine nx (a_add (gN rfl) rfl rfl rfl rfl rfl rfl (by first | omega | (simp only [List.length_map, List.length_append, List.length_cons, List.length_nil] <;> omega) | (simp <;> omega))) rfl ?_)
        (refine nx (aA (gN rfl) rfl rfl rfl rfl rfl) rfl ?_)
        refine ⟨hkl, wk_sub ⟨rfl, rfl, rfl, ?_, rfl, rfl, rfl, ?_, rfl, trivial⟩⟩
        · rw [n2]; rfl
        · rw [n1]; rfl
      | false =>
        have hus := ht_no hht u
        obtain ⟨f, hf⟩ : ∃ f, u[k]? = some f := ⟨u[k]'(by omega), List.getElem?_eq_getElem (by omega)⟩
        have hf' := bls_at hf
        have hat := hit_at hy hf (by rw [← hh]; exact hht)
        rw [← hh] at hat
        have hum : (u.map CV.b).length = b.length := by rw [List.length_map]; exact hul
        refine AWp.wk (wk_sub (s' := [(0, .val (.lst (a.map Tm.cv))), (1, .val (.lst (b.map Tm.cv))), (5, .sl 300005 0 b.length 1), (300005, .mrow 4 1 (u.map CV.b)), (6, .own (.lst (out.map Tm.cv)) 200056), (200056, .tok 29 2), (7, .val (.i i)), (8, .val (.b false)), (9, .val (.i k))]) ⟨rfl, rfl, rfl, by show some (AV.mrow _ _ _) = some (AV.mrow _ _ _); rw [hus], rfl, rfl, rfl, by rw [← hht]; rfl, rfl, trivial⟩) ?_
        cases f with
        | true =>
          obtain ⟨n1, n2⟩ := ht_next hht (fun e => by have := hat.1 e; cases this) u
          refine aS (aD (by kernel_rfl) (by kernel_rfl) ?_)
          (refine nx (aM (gN rfl) rfl rfl rfl rfl rfl) rfl ?_)
          (refine nx (a_not (gN rfl) rfl rfl rfl rfl rfl) rfl ?_)
          (refine nx (aM (gN rfl) rfl rfl rfl rfl rfl) rfl ?_)
          (refine nx (aM (gd_on rfl rfl rfl rfl (by first | rfl | assumption | (simp; done))) rfl rfl rfl rfl rfl) rfl ?_)
          (refine nx (aM (gd_on rfl rfl rfl rfl (by first | rfl | assumption | (simp; done))) rfl rfl rfl rfl rfl) rfl ?_)
          (refine nx (aIm (k := k) (gd_on rfl rfl rfl rfl (by first | rfl | assumption | (simp; done))) rfl rfl rfl rfl rfl rfl rfl rfl rfl (by first | rfl | omega | (simp only [List.length_set, List.length_map, List.length_append, List.length_cons, List.length_nil] <;> omega) | (simp <;> omega))) rfl ?_)
          (refine nx (a_loadM (gd_on rfl rfl rfl rfl (by first | rfl | assumption | (simp; done))) rfl rfl rfl rfl rfl rfl rfl rfl (hf') rfl (by first | rfl | omega | (simp only [List.length_set, List.length_map, List.length_append, List.length_cons, List.length_nil] <;> omega) | (simp <;> omega)) rfl rfl) rfl ?_)
          (refine nx (a_not (gd_on rfl rfl rfl rfl (by first | rfl | assumption | (simp; done))) rfl rfl rfl rfl rfl) rfl ?_)
          (refine ⟨_, _, _, aPt (gN rfl) rfl rfl rfl rfl rfl ?hb rfl, rfl, ?_⟩; case hb => (first | rfl | assumption | (simp; done)))
          (refine nx (aM (gN rfl) rfl rfl rfl rfl rfl) rfl ?_)
          (refine ⟨_, _, _, a_off (go_off rfl rfl rfl rfl (by first | rfl | assumption | (simp; done) | (simp [*]; done))) rfl rfl rfl, rfl, ?_⟩)
          (refine ⟨_, _, _, a_off (go_off rfl rfl rfl rfl (by first | rfl | assumption | (simp; done) | (simp [*]; done))) rfl rfl rfl, rfl, ?_⟩)
          (refine ⟨_, _, _, a_off (go_off rfl rfl rfl rfl (by first | rfl | assumption | (simp; done) | (simp [*]; done))) rfl rfl rfl, rfl, ?_⟩)
          (refine ⟨_, _, _, a_off (go_off rfl rfl rfl rfl (by first | rfl | assumption | (simp; done) | (simp [*]; done))) rfl rfl rfl, rfl, ?_⟩)
          (refine ⟨_, _, _, a_off (go_off rfl rfl rfl rfl (by first | rfl | assumption | (simp; done) | (simp [*]; done))) rfl rfl rfl, rfl, ?_⟩)
          (refine ⟨_, _, _, a_off (go_off rfl rfl rfl rfl (by first | rfl | assumption | (simp; done) | (simp [*]; done))) rfl rfl rfl, rfl, ?_⟩)
          (refine ⟨_, _, _, a_off (go_off rfl rfl rfl rfl (by first | rfl | assumption | (simp; done) | (simp [*]; done))) rfl rfl rfl, rfl, ?_⟩)
          (refine ⟨_, _, _, a_off (go_off rfl rfl rfl rfl (by first | rfl | assumption | (simp; done) | (simp [*]; done))) rfl rfl rfl, rfl, ?_⟩)
          (refine ⟨_, _, _, a_off (go_off rfl rfl rfl rfl (by first | rfl | assumption | (simp; done) | (simp [*]; done))) rfl rfl rfl, rfl, ?_⟩)
          (refine ⟨_, _, _, aPf (gN rfl) rfl rfl rfl rfl rfl ?hb rfl, rfl, ?_⟩; case hb => (first | rfl | assumption | (simp; done)))
          refine ⟨by kernel_rfl, ?_⟩
          show AWp _ _ _ _ _ _ _
          refine aC rfl (fun h => by cases h) (fun _ => ?_)
          refine aK ?_
          show AWp _ _ _ _ _ _ _
          refine aR ?_
          (refine nx (aM (gN rfl) rfl rfl rfl rfl rfl) rfl ?_)
          (refine nx (a_add (gN rfl) rfl rfl rfl rfl rfl rfl (by first | omega | (simp only [List.length_map, List.length_append, List.length_cons, List.length_nil] <;> omega) | (simp <;> omega))) rfl ?_)
          (refine nx (aA (gN rfl) rfl rfl rfl rfl rfl) rfl ?_)
          refine ⟨hkl, wk_sub ⟨rfl, rfl, rfl, ?_, rfl, rfl, rfl, ?_, rfl, trivial⟩⟩
          · rw [n2]; rfl
          · rw [n1]; rfl
        | false =>
          refine aS (aD (by kernel_rfl) (by kernel_rfl) ?_)
          (refine nx (aM (gN rfl) rfl rfl rfl rfl rfl) rfl ?_)
          (refine nx (a_not (gN rfl) rfl rfl rfl rfl rfl) rfl ?_)
          (refine nx (aM (gN rfl) rfl rfl rfl rfl rfl) rfl ?_)
          (refine nx (aM (gd_on rfl rfl rfl rfl (by first | rfl | assumption | (simp; done))) rfl rfl rfl rfl rfl) rfl ?_)
          (refine nx (aM (gd_on rfl rfl rfl rfl (by first | rfl | assumption | (simp; done))) rfl rfl rfl rfl rfl) rfl ?_)
          (refine nx (aIm (k := k) (gd_on rfl rfl rfl rfl (by first | rfl | assumption | (simp; done))) rfl rfl rfl rfl rfl rfl rfl rfl rfl (by first | rfl | omega | (simp only [List.length_set, List.length_map, List.length_append, List.length_cons, List.length_nil] <;> omega) | (simp <;> omega))) rfl ?_)
          (refine nx (a_loadM (gd_on rfl rfl rfl rfl (by first | rfl | assumption | (simp; done))) rfl rfl rfl rfl rfl rfl rfl rfl (hf') rfl (by first | rfl | omega | (simp only [List.length_set, List.length_map, List.length_append, List.length_cons, List.length_nil] <;> omega) | (simp <;> omega)) rfl rfl) rfl ?_)
          (refine nx (a_not (gd_on rfl rfl rfl rfl (by first | rfl | assumption | (simp; done))) rfl rfl rfl rfl rfl) rfl ?_)
          (refine ⟨_, _, _, aPt (gN rfl) rfl rfl rfl rfl rfl ?hb rfl, rfl, ?_⟩; case hb => (first | rfl | assumption | (simp; done)))
          (refine nx (aM (gN rfl) rfl rfl rfl rfl rfl) rfl ?_)
          (refine nx (aM (gd_on rfl rfl rfl rfl (by first | rfl | assumption | (simp; done))) rfl rfl rfl rfl rfl) rfl ?_)
          (refine nx (aM (gd_on rfl rfl rfl rfl (by first | rfl | assumption | (simp; done))) rfl rfl rfl rfl rfl) rfl ?_)
          (refine nx (a_index (j := i) (gd_on rfl rfl rfl rfl (by first | rfl | assumption | (simp; done))) rfl rfl rfl rfl rfl rfl rfl rfl rfl (ht') rfl (hsa)) rfl ?_)
          (refine nx (a_load_ad (gd_on rfl rfl rfl rfl (by first | rfl | assumption | (simp; done))) rfl rfl rfl rfl rfl rfl rfl rfl rfl) rfl ?_)
          (refine nx (aM (gd_on rfl rfl rfl rfl (by first | rfl | assumption | (simp; done))) rfl rfl rfl rfl rfl) rfl ?_)
          (refine nx (aM (gd_on rfl rfl rfl rfl (by first | rfl | assumption | (simp; done))) rfl rfl rfl rfl rfl) rfl ?_)
          (refine nx (a_index (j := k) (gd_on rfl rfl rfl rfl (by first | rfl | assumption | (simp; done))) rfl rfl rfl rfl rfl rfl rfl rfl rfl (hy') rfl (hsb)) rfl ?_)
          (refine nx (a_load_ad (gd_on rfl rfl rfl rfl (by first | rfl | assumption | (simp; done))) rfl rfl rfl rfl rfl rfl rfl rfl rfl) rfl ?_)
          (refine nx (a_call (gd_on rfl rfl rfl rfl (by first | rfl | assumption | (simp; done))) rfl rfl rfl rfl rfl (refSame_abs w t y hto hyo)) rfl ?_)
          (refine ⟨_, _, _, aPt (gN rfl) rfl rfl rfl rfl rfl ?hb rfl, rfl, ?_⟩; case hb => (first | rfl | assumption | (simp; done)))
          refine ⟨by kernel_rfl, ?_⟩
          show AWp _ _ _ _ _ _ _
          refine aC rfl (fun hsm => ?_) (fun hsm => ?_)
          · have hsm : sameT t y = true := hsm
            have he : h = some k := hat.2 (by rw [hsm]; rfl)
            obtain ⟨n1, n2⟩ := ht_here (k := k) u
            refine aS (aR ?_)
            (refine nx (aM (gN rfl) rfl rfl rfl rfl rfl) rfl ?_)
            (refine nx (aM (gN rfl) rfl rfl rfl rfl rfl) rfl ?_)
            (refine nx (aIm (k := k) (gN rfl) rfl rfl rfl rfl rfl rfl rfl rfl rfl (by first | rfl | omega | (simp only [List.length_set, List.length_map, List.length_append, List.length_cons, List.length_nil] <;> omega) | (simp <;> omega))) rfl ?_)
            (refine nx (a_storeM (gN rfl) rfl rfl rfl rfl rfl rfl (hf') rfl rfl (by first | rfl | omega | (simp only [List.length_set, List.length_map, List.length_append, List.length_cons, List.length_nil] <;> omega) | (simp <;> omega)) rfl) rfl ?_)
            show AWp _ _ _ _ _ _ _
            refine aR ?_
            (refine nx (aA (gN rfl) rfl rfl rfl rfl rfl) rfl ?_)
            show AWp _ _ _ _ _ _ _
            refine aR ?_
            (refine nx (aM (gN rfl) rfl rfl rfl rfl rfl) rfl ?_)
            (refine nx (a_add (gN rfl) rfl rfl rfl rfl rfl rfl (by first | omega | (simp only [List.length_map, List.length_append, List.length_cons, List.length_nil] <;> omega) | (simp <;> omega))) rfl ?_)
            (refine nx (aA (gN rfl) rfl rfl rfl rfl rfl) rfl ?_)
            refine ⟨hkl, wk_sub ⟨rfl, rfl, rfl, ?_, rfl, rfl, rfl, ?_, rfl, trivial⟩⟩
            · show some (AV.mrow _ _ _) = some (AV.mrow _ _ _)
              rw [he, n2, List.map_set]
              rfl
            · rw [he, n1]; rfl
          · have hsm : sameT t y = false := hsm
            obtain ⟨n1, n2⟩ := ht_next hht (fun e => by have := hat.1 e; rw [hsm] at this; cases this) u
            refine aK ?_
            show AWp _ _ _ _ _ _ _
            refine aR ?_
            (refine nx (aM (gN rfl) rfl rfl rfl rfl rfl) rfl ?_)
            (refine nx (a_add (gN rfl) rfl rfl rfl rfl rfl rfl (by first | omega | (simp only [List.length_map, List.length_append, List.length_cons, List.length_nil] <;> omega) | (simp <;> omega))) rfl ?_)
            (refine nx (aA (gN rfl) rfl rfl rfl rfl rfl) rfl ?_)
            refine ⟨hkl, wk_sub ⟨rfl, rfl, rfl, ?_, rfl, rfl, rfl, ?_, rfl, trivial⟩⟩
            · rw [n2]; rfl
            · rw [n1]; rfl
    · have hkl : k = b.length := by
        have : ¬ k < b.length := by simpa using hlt2
        omega
      subst hkl
      refine aE ?_
      show AWp _ _ _ _ _ _ _
      refine aS (aR ?_)
      (refine nx (aM (gN rfl) rfl rfl rfl rfl rfl) rfl ?_)
      (refine nx (a_not (gN rfl) rfl rfl rfl rfl rfl) rfl ?_)
      show AWp _ _ _ _ _ _ _
      have hol2 : (out.map Tm.cv).length ≤ i := by rw [List.length_map]; exact hol
      have hso := Tm.size_all out
      refine aC rfl (fun hn => ?_) (fun hn => ?_)
      · have hn : (!htK h b.length) = true := hn
        have hnone : h = none := by
          cases hc : h with
          | none => rfl
          | some q =>
            rw [hc] at hn
            have := hit_lt (hh.symm.trans hc)
            simp [htK] at hn
            omega
        have hls := hls1 hnone
        have hus : usK h u b.length = u := by rw [hnone]; rfl
        refine aR ?_
        (refine nx (aM (gN rfl) rfl rfl rfl rfl rfl) rfl ?_)
        (refine nx (aM (gN rfl) rfl rfl rfl rfl rfl) rfl ?_)
        (refine nx (aM (gN rfl) rfl rfl rfl rfl rfl) rfl ?_)
        (refine nx (a_index (j := i) (gN rfl) rfl rfl rfl rfl rfl rfl rfl rfl rfl (ht') rfl (hsa)) rfl ?_)
        (refine nx (a_load_ad (gN rfl) rfl rfl rfl rfl rfl rfl rfl rfl rfl) rfl ?_)
        (refine nx (a_bslice (gN rfl) rfl rfl rfl rfl rfl rfl rfl rfl rfl rfl rfl rfl rfl) rfl ?_)
        (refine nx (a_app (gN rfl) rfl rfl rfl rfl rfl rfl rfl rfl rfl rfl rfl rfl rfl rfl rfl (by first | assumption | exact sZ rfl | exact Tm.size_all _ | exact Bd.size_all _ | exact ints_size _ | exact bys_size _ | exact Lt.size_all _) (by first | assumption | exact sZ rfl | exact Tm.size_all _ | exact Bd.size_all _ | exact ints_size _ | exact bys_size _ | exact Lt.size_all _) (by first | omega | (simp only [List.length_map, List.length_append, List.length_cons, List.length_nil] <;> omega) | (simp <;> omega))) rfl ?_)
        (refine nx (aA (gN rfl) rfl rfl rfl rfl rfl) rfl ?_)
        show AWp _ _ _ _ _ _ _
        refine AWp.wk ((wk_sub (s' := [(0, .val (.lst (a.map Tm.cv))), (1, .val (.lst (b.map Tm.cv))), (5, .sl 300005 0 b.length 1), (300005, .mrow 4 1 (u.map CV.b)), (6, .own (.lst ((out ++ [t]).map Tm.cv)) 300056), (300056, .tok 29 2), (7, .val (.i i))]) ⟨rfl, rfl, rfl, by show some (AV.mrow _ _ _) = some (AV.mrow _ _ _); rw [hus], ?_, rfl, rfl, trivial⟩).trans (wk_ren 300056 200056 rfl rfl rfl rfl)) ?_
        · show some (AV.own (.lst _) _) = some (AV.own (.lst _) _)
          rw [List.map_append, List.map_cons, List.map_nil, Tm.cv_eq t]
        refine aR ?_
        (refine nx (aM (gN rfl) rfl rfl rfl rfl rfl) rfl ?_)
        (refine nx (a_add (gN rfl) rfl rfl rfl rfl rfl rfl (by first | omega | (simp only [List.length_map, List.length_append, List.length_cons, List.length_nil] <;> omega) | (simp <;> omega))) rfl ?_)
        (refine nx (aA (gN rfl) rfl rfl rfl rfl rfl) rfl ?_)
        refine ⟨a.length - (i + 1), st (i + 1) (out ++ [t]) u, by omega, ⟨i + 1, out ++ [t], u, rfl, by omega, hul, ?_, by simp; omega, rfl⟩, wk_sub ⟨rfl, rfl, rfl, rfl, rfl, rfl, rfl, trivial⟩⟩
        rw [← hout, hls, List.append_assoc]; rfl
      · have hn : (!htK h b.length) = false := hn
        obtain ⟨q, hq⟩ : ∃ q, h = some q := by
          cases hc : h with
          | none => rw [hc] at hn; cases hn
          | some q => exact ⟨q, rfl⟩
        have hql := hit_lt (hh.symm.trans hq)
        have hls := hls2 q hq
        have hus : usK h u b.length = u.set q true := by rw [hq]; simp only [usK]; rw [if_pos hql]
        refine aK ?_
        show AWp _ _ _ _ _ _ _
        refine AWp.wk (wk_sub (s' := [(0, .val (.lst (a.map Tm.cv))), (1, .val (.lst (b.map Tm.cv))), (5, .sl 300005 0 b.length 1), (300005, .mrow 4 1 ((u.set q true).map CV.b)), (6, .own (.lst (out.map Tm.cv)) 200056), (200056, .tok 29 2), (7, .val (.i i))]) ⟨rfl, rfl, rfl, by show some (AV.mrow _ _ _) = some (AV.mrow _ _ _); rw [hus], rfl, rfl, rfl, trivial⟩) ?_
        refine aR ?_
        (refine nx (aM (gN rfl) rfl rfl rfl rfl rfl) rfl ?_)
        (refine nx (a_add (gN rfl) rfl rfl rfl rfl rfl rfl (by first | omega | (simp only [List.length_map, List.length_append, List.length_cons, List.length_nil] <;> omega) | (simp <;> omega))) rfl ?_)
        (refine nx (aA (gN rfl) rfl rfl rfl rfl rfl) rfl ?_)
        refine ⟨a.length - (i + 1), st (i + 1) out (u.set q true), by omega, ⟨i + 1, out, u.set q true, rfl, by omega, by simp [hul], ?_, by omega, rfl⟩, wk_sub ⟨rfl, rfl, rfl, rfl, rfl, rfl, rfl, trivial⟩⟩
        rw [← hout, hls]
  · have hil : i = a.length := by
      have : ¬ i < a.length := by simpa using hlt
      omega
    subst hil
    have he : lessD a b = out := by rw [← hout, List.drop_length, lsD, List.append_nil]
    rw [he]
    refine aE ?_
    show AWp _ _ _ _ _ _ _
    refine aS (aR ?_)
    (refine nx (aM (gN rfl) rfl rfl rfl rfl rfl) rfl ?_)
    (refine nx (aA (gN rfl) rfl rfl rfl rfl rfl) rfl ?_)
    show AWp _ _ _ _ _ _ _
    exact aT (And.intro (.inr rfl) rfl)
theorem lsD_mem : ∀ {a b : List Tm} {u : List Bool} {t : Tm}, t ∈ lsD a b u → t ∈ a
  | [], b, u, t, h => by unfold lsD at h; exact h
  | x :: a, b, u, t, h => by
    unfold lsD at h
    split at h
    · rcases List.mem_cons.1 h with rfl | h
      · exact List.mem_cons_self
      · exact List.mem_cons_of_mem _ (lsD_mem h)
    · exact List.mem_cons_of_mem _ (lsD_mem h)
theorem lsD_len : ∀ (a b : List Tm) (u : List Bool), (lsD a b u).length ≤ a.length
  | [], b, u => by unfold lsD; exact Nat.le_refl _
  | x :: a, b, u => by
    unfold lsD
    split
    · have := lsD_len a b u; simp; omega
    · rename_i k _; have := lsD_len a b (u.set k true); simp; omega
noncomputable def undB14 (X : List Tm) (y : Tm) : Bool := X.any fun x => decide (kb x y = 1)
theorem out_und (X Y : List Tm) : outB X Y = (decide (0 < X.length) && Y.all (undB14 X)) := by
  rw [Bool.eq_iff_iff, outB_iff, Bool.and_eq_true, decide_eq_true_iff, List.all_eq_true, List.length_pos_iff]
  refine and_congr_right fun _ => forall_congr' fun y => forall_congr' fun _ => ?_
  unfold undB14
  rw [List.any_eq_true]
  exact exists_congr fun x => and_congr_right fun _ => (decide_eq_true_iff).symm
theorem und_take {X : List Tm} {k : Nat} {x : Tm} (h : X[k]? = some x) (y : Tm) : undB14 (X.take (k + 1)) y = (undB14 (X.take k) y || decide (kb x y = 1)) := by
  unfold undB14
  rw [List.take_add_one, h, List.any_append]
  simp
-- 
theorem rMulti14_abs (W : World) (a b : List Tm) (ha : ∀ t ∈ a, t.fit) (hb : ∀ t ∈ b, t.fit) (hal : a.length ≤ 100000) (hbl : b.length ≤ 100000) : AFun Try.prog W 22 [.lst (a.map Tm.cv), .lst (b.map Tm.cv)] (.val (.b (mulB a b))) := by
  rw [← mul_doc, out_und]
  obtain ⟨X, hX⟩ : ∃ X, X = lessD a b := ⟨_, rfl⟩
  obtain ⟨Y, hY⟩ : ∃ Y, Y = lessD b a := ⟨_, rfl⟩
  have hXf : ∀ t ∈ X, t.fit := fun t h => ha t (by rw [hX] at h; exact lsD_mem h)
  have hYf : ∀ t ∈ Y, t.fit := fun t h => hb t (by rw [hY] at h; exact lsD_mem h)
  have hXl : X.length ≤ 100000 := by rw [hX]; exact Nat.le_trans (lsD_len _ _ _) hal
  have hYl : Y.length ≤ 100000 := by rw [hY]; exact Nat.le_trans (lsD_len _ _ _) hbl
  have hsX := Tm.size_all X
  have hsY := Tm.size_all Y
  have hl1 : ∀ w, AFun Try.prog w 40 [.lst (a.map Tm.cv), .lst (b.map Tm.cv)] (.val (.lst (X.map Tm.cv))) := fun w => by rw [hX]; exact rLess14_abs w a b (fun t h => (ha t h).2.1) (fun t h => (hb t h).2.1) hal hbl
  have hl2 : ∀ w, AFun Try.prog w 40 [.lst (b.map Tm.cv), .lst (a.map Tm.cv)] (.val (.lst (Y.map Tm.cv))) := fun w => by rw [hY]; exact rLess14_abs w b a (fun t h => (hb t h).2.1) (fun t h => (ha t h).2.1) hbl hal
  rw [← hX, ← hY]
  refine afun_of (rs := [.b (decide (0 < X.length) && Y.all (undB14 X))]) Try.func22 Try.ntmps22 rfl rfl rfl rfl ?_
  intro w U hW
  refine aS (aR ?_)
  (refine nx (aA (gN rfl) rfl rfl rfl rfl rfl) rfl ?_)
  show AWp _ _ _ _ _ _ _
  refine aS (aR ?_)
  (refine nx (aM (gN rfl) rfl rfl rfl rfl rfl) rfl ?_)
  (refine nx (aM (gN rfl) rfl rfl rfl rfl rfl) rfl ?_)
  (refine nx (a_call (gN rfl) rfl rfl rfl rfl rfl (hl1 w)) rfl ?_)
  (refine nx (aM (gN rfl) rfl rfl rfl rfl rfl) rfl ?_)
  (refine nx (aM (gN rfl) rfl rfl rfl rfl rfl) rfl ?_)
  (refine nx (a_call (gN rfl) rfl rfl rfl rfl rfl (hl2 w)) rfl ?_)
  (refine nx (aA (gN rfl) rfl rfl rfl rfl rfl) rfl ?_)
  (refine nx (aA (gN rfl) rfl rfl rfl rfl rfl) rfl ?_)
  show AWp _ _ _ _ _ _ _
  refine aS (aS (aR ?_))
  (refine nx (aA (gN rfl) rfl rfl rfl rfl rfl) rfl ?_)
  show AWp _ _ _ _ _ _ _
  let st : Nat → AS := fun i => [(5, .val (.lst (X.map Tm.cv))), (6, .val (.lst (Y.map Tm.cv))), (7, .val (.i i))]
  refine aB (awp_countI Y.length (fun i => ∀ y ∈ Y.take i, undB14 X y = true) st (wk_sub ⟨rfl, rfl, rfl, trivial⟩) (by simp) ?_)
  intro i hi hI
  refine aS (aS (aR ?_))
  (refine nx (aM (gN rfl) rfl rfl rfl rfl rfl) rfl ?_)
  (refine nx (aM (gN rfl) rfl rfl rfl rfl rfl) rfl ?_)
  (refine nx (a_len (gN rfl) rfl rfl rfl rfl rfl rfl rfl) rfl ?_)
  (refine nx (a_lss (gN rfl) rfl rfl rfl rfl rfl rfl) rfl ?_)
  show AWp _ _ _ _ _ _ _
  refine aC rfl (fun hlt => ?_) (fun hlt => ?_)
  · have hil : i < Y.length := by simpa using hlt
    obtain ⟨y, hy⟩ : ∃ y, Y[i]? = some y := ⟨Y[i], List.getElem?_eq_getElem hil⟩
    have hy' := Tm.map_at hy
    have hyf := hYf y (List.mem_of_getElem? hy)
    refine aK ?_
    show AWp _ _ _ _ _ _ _
    refine aS (aB (aS (aR ?_)))
    (refine nx (aA (gN rfl) rfl rfl rfl rfl rfl) rfl ?_)
    show AWp _ _ _ _ _ _ _
    refine aS (aS (aR ?_))
    (refine nx (aA (gN rfl) rfl rfl rfl rfl rfl) rfl ?_)
    show AWp _ _ _ _ _ _ _
    let st2 : Nat → AS := fun k => [(5, .val (.lst (X.map Tm.cv))), (6, .val (.lst (Y.map Tm.cv))), (7, .val (.i i)), (8, .val (.b (undB14 (X.take k) y))), (9, .val (.i k))]
    refine aB (awp_count X.length st2 (wk_sub ⟨rfl, rfl, rfl, rfl, rfl, trivial⟩) ?_)
    intro k hk
    refine aS (aS (aR ?_))
    (refine nx (aM (gN rfl) rfl rfl rfl rfl rfl) rfl ?_)
    (refine nx (aM (gN rfl) rfl rfl rfl rfl rfl) rfl ?_)
    (refine nx (a_len (gN rfl) rfl rfl rfl rfl rfl rfl rfl) rfl ?_)
    (refine nx (a_lss (gN rfl) rfl rfl rfl rfl rfl rfl) rfl ?_)
    show AWp _ _ _ _ _ _ _
    refine aC rfl (fun hlt2 => ?_) (fun hlt2 => ?_)
    · have hkl : k < X.length := by simpa using hlt2
      obtain ⟨x, hx⟩ : ∃ x, X[k]? = some x := ⟨X[k], List.getElem?_eq_getElem hkl⟩
      have hx' := Tm.map_at hx
      have hxf := hXf x (List.mem_of_getElem? hx)
      have hut := und_take hx y
      refine aK ?_
      show AWp _ _ _ _ _ _ _
      refine aS (aB ?_)
      cases hu : undB14 (X.take k) y with
      | true =>
        rw [hu, Bool.true_or] at hut
        refine AWp.wk (wk_sub (s' := [(5, .val (.lst (X.map Tm.cv))), (6, .val (.lst (Y.map Tm.cv))), (7, .val (.i i)), (8, .val (.b true)), (9, .val (.i k))]) ⟨rfl, rfl, rfl, by rw [← hu]; rfl, rfl, trivial⟩) ?_
        refine aD (by kernel_rfl) (by kernel_rfl) ?_
        (refine nx (aM (gN rfl) rfl rfl rfl rfl rfl) rfl ?_)
        (refine nx (aM (gN rfl) rfl rfl rfl rfl rfl) rfl ?_)
        (refine ⟨_, _, _, a_off (go_off rfl rfl rfl rfl (by first | rfl | assumption | (simp; done) | (simp [*]; done))) rfl rfl rfl, rfl, ?_⟩)
        (refine ⟨_, _, _, a_off (go_off rfl rfl rfl rfl (by first | rfl | assumption | (simp; done) | (simp [*]; done))) rfl rfl rfl, rfl, ?_⟩)
        (refine ⟨_, _, _, a_off (go_off rfl rfl rfl rfl (by first | rfl | assumption | (simp; done) | (simp [*]; done))) rfl rfl rfl, rfl, ?_⟩)
        (refine ⟨_, _, _, a_off (go_off rfl rfl rfl rfl (by first | rfl | assumption | (simp; done) | (simp [*]; done))) rfl rfl rfl, rfl, ?_⟩)
        (refine ⟨_, _, _, a_off (go_off rfl rfl rfl rfl (by first | rfl | assumption | (simp; done) | (simp [*]; done))) rfl rfl rfl, rfl, ?_⟩)
        (refine ⟨_, _, _, a_off (go_off rfl rfl rfl rfl (by first | rfl | assumption | (simp; done) | (simp [*]; done))) rfl rfl rfl, rfl, ?_⟩)
        (refine ⟨_, _, _, a_off (go_off rfl rfl rfl rfl (by first | rfl | assumption | (simp; done) | (simp [*]; done))) rfl rfl rfl, rfl, ?_⟩)
        (refine ⟨_, _, _, a_off (go_off rfl rfl rfl rfl (by first | rfl | assumption | (simp; done) | (simp [*]; done))) rfl rfl rfl, rfl, ?_⟩)
        (refine ⟨_, _, _, a_off (go_off rfl rfl rfl rfl (by first | rfl | assumption | (simp; done) | (simp [*]; done))) rfl rfl rfl, rfl, ?_⟩)
        (refine ⟨_, _, _, aPt (gN rfl) rfl rfl rfl rfl rfl ?hb rfl, rfl, ?_⟩; case hb => (first | rfl | assumption | (simp; done)))
        (refine nx (aA (gN rfl) rfl rfl rfl rfl rfl) rfl ?_)
        refine ⟨by kernel_rfl, ?_⟩
        show AWp _ _ _ _ _ _ _
        refine aR ?_
        (refine nx (aM (gN rfl) rfl rfl rfl rfl rfl) rfl ?_)
        (refine nx (a_add (gN rfl) rfl rfl rfl rfl rfl rfl (by first | omega | (simp only [List.length_map, List.length_append, List.length_cons, List.length_nil] <;> omega) | (simp <;> omega))) rfl ?_)
        (refine nx (aA (gN rfl) rfl rfl rfl rfl rfl) rfl ?_)
        refine ⟨hkl, wk_sub ⟨rfl, rfl, rfl, ?_, rfl, trivial⟩⟩
        rw [hut]; rfl
      | false =>
        rw [hu, Bool.false_or] at hut
        refine AWp.wk (wk_sub (s' := [(5, .val (.lst (X.map Tm.cv))), (6, .val (.lst (Y.map Tm.cv))), (7, .val (.i i)), (8, .val (.b false)), (9, .val (.i k))]) ⟨rfl, rfl, rfl, by rw [← hu]; rfl, rfl, trivial⟩) ?_
        refine aD (by kernel_rfl) (by kernel_rfl) ?_
        (refine nx (aM (gN rfl) rfl rfl rfl rfl rfl) rfl ?_)
        (refine nx (aM (gN rfl) rfl rfl rfl rfl rfl) rfl ?_)
        (refine nx (aM (gd_on rfl rfl rfl rfl (by first | rfl | assumption | (simp; done))) rfl rfl rfl rfl rfl) rfl ?_)
        (refine nx (aM (gd_on rfl rfl rfl rfl (by first | rfl | assumption | (simp; done))) rfl rfl rfl rfl rfl) rfl ?_)
        (refine nx (a_index (j := k) (gd_on rfl rfl rfl rfl (by first | rfl | assumption | (simp; done))) rfl rfl rfl rfl rfl rfl rfl rfl rfl (hx') rfl (hsX)) rfl ?_)
        (refine nx (a_load_ad (gd_on rfl rfl rfl rfl (by first | rfl | assumption | (simp; done))) rfl rfl rfl rfl rfl rfl rfl rfl rfl) rfl ?_)
        (refine nx (aM (gd_on rfl rfl rfl rfl (by first | rfl | assumption | (simp; done))) rfl rfl rfl rfl rfl) rfl ?_)
        (refine nx (aM (gd_on rfl rfl rfl rfl (by first | rfl | assumption | (simp; done))) rfl rfl rfl rfl rfl) rfl ?_)
        (refine nx (a_index (j := i) (gd_on rfl rfl rfl rfl (by first | rfl | assumption | (simp; done))) rfl rfl rfl rfl rfl rfl rfl rfl rfl (hy') rfl (hsY)) rfl ?_)
        (refine nx (a_load_ad (gd_on rfl rfl rfl rfl (by first | rfl | assumption | (simp; done))) rfl rfl rfl rfl rfl rfl rfl rfl rfl) rfl ?_)
        (refine nx (a_call (gd_on rfl rfl rfl rfl (by first | rfl | assumption | (simp; done))) rfl rfl rfl rfl rfl (rGreater_abs w x hxf.1 hxf.2.1 hxf.2.2 y hyf.1 hyf.2.1 hyf.2.2)) rfl ?_)
        (refine ⟨_, _, _, aPf (gN rfl) rfl rfl rfl rfl rfl ?hb rfl, rfl, ?_⟩; case hb => (first | rfl | assumption | (simp; done)))
        (refine nx (aA (gN rfl) rfl rfl rfl rfl rfl) rfl ?_)
        refine ⟨by kernel_rfl, ?_⟩
        show AWp _ _ _ _ _ _ _
        refine aR ?_
        (refine nx (aM (gN rfl) rfl rfl rfl rfl rfl) rfl ?_)
        (refine nx (a_add (gN rfl) rfl rfl rfl rfl rfl rfl (by first | omega | (simp only [List.length_map, List.length_append, List.length_cons, List.length_nil] <;> omega) | (simp <;> omega))) rfl ?_)
        (refine nx (aA (gN rfl) rfl rfl rfl rfl rfl) rfl ?_)
        refine ⟨hkl, wk_sub ⟨rfl, rfl, rfl, ?_, rfl, trivial⟩⟩
        rw [hut]; rfl
    · have hkl : k = X.length := by
        have : ¬ k < X.length := by simpa using hlt2
        omega
      subst hkl
      refine aE ?_
      show AWp _ _ _ _ _ _ _
      refine aS (aR ?_)
      (refine nx (aM (gN rfl) rfl rfl rfl rfl rfl) rfl ?_)
      (refine nx (a_not (gN rfl) rfl rfl rfl rfl rfl) rfl ?_)
      show AWp _ _ _ _ _ _ _
      refine aC rfl (fun hn => ?_) (fun hn => ?_)
      · have hn : (!undB14 (X.take X.length) y) = true := hn
        rw [List.take_length] at hn
        have hno : Y.all (undB14 X) = false := by
          rw [← Bool.not_eq_true, List.all_eq_true]
          intro h
          rw [h y (List.mem_of_getElem? hy)] at hn; cases hn
        rw [hno, Bool.and_false]
        refine aS (aR ?_)
        (refine nx (aA (gN rfl) rfl rfl rfl rfl rfl) rfl ?_)
        show AWp _ _ _ _ _ _ _
        exact aT (And.intro (.inr rfl) rfl)
      · have hn : (!undB14 (X.take X.length) y) = false := hn
        rw [List.take_length] at hn
        refine aK ?_
        show AWp _ _ _ _ _ _ _
        refine aR ?_
        (refine nx (aM (gN rfl) rfl rfl rfl rfl rfl) rfl ?_)
        (refine nx (a_add (gN rfl) rfl rfl rfl rfl rfl rfl (by first | omega | (simp only [List.length_map, List.length_append, List.length_cons, List.length_nil] <;> omega) | (simp <;> omega))) rfl ?_)
        (refine nx (aA (gN rfl) rfl rfl rfl rfl rfl) rfl ?_)
        refine ⟨hil, ?_, wk_sub ⟨rfl, rfl, rfl, trivial⟩⟩
        intro z hz
        rw [List.take_add_one, hy, List.mem_append] at hz
        rcases hz with hz | hz
        · exact hI z hz
        · simp at hz; rw [hz]; simpa using hn
  · have hil : i = Y.length := by
      have : ¬ i < Y.length := by simpa using hlt
      omega
    subst hil
    rw [List.take_length] at hI
    rw [List.all_eq_true.2 hI, Bool.and_true]
    have e : decide (0 < X.length) = decide (((X.map Tm.cv).length : Int) > 0) := by simp
    rw [e]
    refine aE ?_
    show AWp _ _ _ _ _ _ _
    refine aS (aR ?_)
    (refine nx (aM (gN rfl) rfl rfl rfl rfl rfl) rfl ?_)
    (refine nx (a_len (gN rfl) rfl rfl rfl rfl rfl rfl rfl) rfl ?_)
    (refine nx (a_gtr (gN rfl) rfl rfl rfl rfl rfl rfl) rfl ?_)
    (refine nx (aA (gN rfl) rfl rfl rfl rfl rfl) rfl ?_)
    show AWp _ _ _ _ _ _ _
    exact aT (And.intro (.inr rfl) rfl)
-- 
theorem rGr14_abs (W : World) (x y : Lt) (hx : x.fit) (hy : y.fit) : AFun Try.prog W 18 [x.cw, y.cw] (.val (.b (mulB (tmsL x) (tmsL y)))) := by
  have l1 := tmsL_len x
  have l2 := tmsL_len y
  refine afun_of (rs := [.b (mulB (tmsL x) (tmsL y))]) Try.func18 Try.ntmps18 rfl rfl rfl rfl ?_
  intro w U hW
  refine aS (aR ?_)
  (refine nx (a_box (gN rfl) rfl rfl rfl rfl rfl) rfl ?_)
  (refine nx (a_box (gN rfl) rfl rfl rfl rfl rfl) rfl ?_)
  (refine nx (aA (gN rfl) rfl rfl rfl rfl rfl) rfl ?_)
  show AWp _ _ _ _ _ _ _
  refine aS (aD (by kernel_rfl) (by kernel_rfl) ?_)
  (refine nx (aL (gN rfl) rfl rfl rfl rfl rfl rfl rfl rfl rfl rfl rfl rfl) rfl ?_)
  (refine nx (a_call (gN rfl) rfl rfl rfl rfl rfl (rTms_abs w x)) rfl ?_)
  (refine nx (aL (gN rfl) rfl rfl rfl rfl rfl rfl rfl rfl rfl rfl rfl rfl) rfl ?_)
  (refine nx (a_call (gN rfl) rfl rfl rfl rfl rfl (rTms_abs w y)) rfl ?_)
  (refine nx (a_call (gN rfl) rfl rfl rfl rfl rfl (rMulti14_abs w (tmsL x) (tmsL y) (tmsL_mem hx) (tmsL_mem hy) (by omega) (by omega))) rfl ?_)
  (refine nx (aA (gN rfl) rfl rfl rfl rfl rfl) rfl ?_)
  refine ⟨by kernel_rfl, ?_⟩
  show AWp _ _ _ _ _ _ _
  exact aT (And.intro (.inr rfl) rfl)
theorem wtL_pos (l : Lt) : 0 < wtL l := by have := l.a.size_pos; unfold wtL; omega
noncomputable def orD (l : Lt) : List (Tm × Tm) := (if kb l.a l.b > 0 then [(l.a, l.b)] else []) ++ (if kb l.a l.b = -1 ∨ kb l.a l.b = 2 then [(l.b, l.a)] else [])
noncomputable def prL (p : Tm × Tm) : CV := .lst [p.1.cw, p.2.cw]
theorem orD_orK (l : Lt) : orK l 2 = (orD l).map fun p => (p.1.strip, p.2.strip) := by
  have h4 := kb_four l.a l.b
  have ht := kb_turn l.a l.b
  have e1 : orK l 2 = ([(l.a, l.b), (l.b, l.a)].filter fun p => decide (kb p.1 p.2 = 1 ∨ kb p.1 p.2 = 2)).map fun p => (p.1.strip, p.2.strip) := rfl
  rw [e1]
  congr 1
  unfold orD
  rcases h4 with h | h | h | h
  · have hb : kb l.b l.a = 0 := by rw [ht, h]; rfl
    simp [h, hb]
  · have hb : kb l.b l.a = -1 := by rw [ht, h]; rfl
    simp [h, hb]
  · have hb : kb l.b l.a = 1 := by rw [ht, h]; rfl
    simp [h, hb]
  · have hb : kb l.b l.a = 2 := by rw [ht, h]; rfl
    simp [h, hb]
-- 
theorem rOri14_abs (W : World) (l : Lt) (hl : l.fit) : AFun Try.prog W 20 [l.cw] (.val (.lst ((orD l).map prL))) := by
  refine afun_of (rs := [.lst ((orD l).map prL)]) Try.func20 Try.ntmps20 rfl rfl rfl rfl ?_
  intro w U hW
  refine aS (aR ?_)
  (refine nx (a_box (gN rfl) rfl rfl rfl rfl rfl) rfl ?_)
  (refine nx (aA (gN rfl) rfl rfl rfl rfl rfl) rfl ?_)
  show AWp _ _ _ _ _ _ _
  refine aS (aR ?_)
  (refine nx (aA (gN rfl) rfl rfl rfl rfl rfl) rfl ?_)
  show AWp _ _ _ _ _ _ _
  refine aS (aR ?_)
  (refine nx (aF (gN rfl) rfl rfl rfl rfl rfl rfl rfl rfl rfl) rfl ?_)
  (refine nx (aLb (gN rfl) rfl rfl rfl rfl rfl rfl rfl rfl rfl rfl rfl rfl) rfl ?_)
  (refine nx (aF (gN rfl) rfl rfl rfl rfl rfl rfl rfl rfl rfl) rfl ?_)
  (refine nx (aLb (gN rfl) rfl rfl rfl rfl rfl rfl rfl rfl rfl rfl rfl rfl) rfl ?_)
  (refine nx (a_call (gN rfl) rfl rfl rfl rfl rfl (rCompare_abs w l.a l.b hl.1.1 hl.1.2.1 hl.1.2.2 hl.2.1 hl.2.2.1 hl.2.2.2)) rfl ?_)
  (refine nx (aA (gN rfl) rfl rfl rfl rfl rfl) rfl ?_)
  show AWp _ _ _ _ _ _ _
  obtain ⟨k, hk⟩ : ∃ k, k = kb l.a l.b := ⟨_, rfl⟩
  obtain ⟨A1, hA1⟩ : ∃ A1 : List (Tm × Tm), A1 = if k > 0 then [(l.a, l.b)] else [] := ⟨_, rfl⟩
  have hA1l : A1.length ≤ 1 := by rw [hA1]; split <;> simp
  have hOD : orD l = A1 ++ (if k = -1 ∨ k = 2 then [(l.b, l.a)] else []) := by rw [hA1, hk]; rfl
  have hsA : ∀ x ∈ A1.map prL, x.size = 1 := by
    intro x hx
    obtain ⟨p, _, rfl⟩ := List.mem_map.1 hx
    rfl
  have hA1m : (A1.map prL).length ≤ 1 := by rw [List.length_map]; exact hA1l
  refine awp_mid [(1, .bp 1 0 []), (100001, .bx l.cw), (3, .own (.lst (A1.map prL)) 200033), (200033, .tok 22 1), (4, .val (.i k))] ?_ ?_
  · refine AWp.wk ((wk_nil 3 200019 22 1 rfl rfl rfl rfl rfl rfl rfl).trans (wk_sub (s' := [(1, .bp 1 0 []), (100001, .bx l.cw), (3, .own (.lst []) 200019), (200019, .tok 22 1), (4, .val (.i k))]) ⟨rfl, rfl, rfl, rfl, by rw [hk]; rfl, trivial⟩)) ?_
    refine aS (aR ?_)
    (refine nx (aM (gN rfl) rfl rfl rfl rfl rfl) rfl ?_)
    (refine nx (a_gtr (gN rfl) rfl rfl rfl rfl rfl rfl) rfl ?_)
    show AWp _ _ _ _ _ _ _
    refine aC rfl (fun hg => ?_) (fun hg => ?_)
    · have hg : decide (k > 0) = true := hg
      rw [if_pos (of_decide_eq_true hg)] at hA1
      refine aR ?_
      (refine nx (aM (gN rfl) rfl rfl rfl rfl rfl) rfl ?_)
      (refine nx (aF (gN rfl) rfl rfl rfl rfl rfl rfl rfl rfl rfl) rfl ?_)
      (refine nx (aLb (gN rfl) rfl rfl rfl rfl rfl rfl rfl rfl rfl rfl rfl rfl) rfl ?_)
      (refine nx (aF (gN rfl) rfl rfl rfl rfl rfl rfl rfl rfl rfl) rfl ?_)
      (refine nx (aLb (gN rfl) rfl rfl rfl rfl rfl rfl rfl rfl rfl rfl rfl rfl) rfl ?_)
      (refine nx (a_bslice (gN rfl) rfl rfl rfl rfl rfl rfl rfl rfl rfl rfl rfl rfl rfl) rfl ?_)
      (refine nx (a_bslice (gN rfl) rfl rfl rfl rfl rfl rfl rfl rfl rfl rfl rfl rfl rfl) rfl ?_)
      (refine nx (a_app (gN rfl) rfl rfl rfl rfl rfl rfl rfl rfl rfl rfl rfl rfl rfl rfl rfl (by first | assumption | exact sZ rfl | exact Tm.size_all _ | exact Bd.size_all _ | exact ints_size _ | exact bys_size _ | exact Lt.size_all _) (by first | assumption | exact sZ rfl | exact Tm.size_all _ | exact Bd.size_all _ | exact ints_size _ | exact bys_size _ | exact Lt.size_all _) (by first | omega | (simp only [List.length_map, List.length_append, List.length_cons, List.length_nil] <;> omega) | (simp <;> omega))) rfl ?_)
      (refine nx (aA (gN rfl) rfl rfl rfl rfl rfl) rfl ?_)
      refine (wk_sub (s' := [(1, .bp 1 0 []), (100001, .bx l.cw), (3, .own (.lst (A1.map prL)) 300019), (300019, .tok 22 1), (4, .val (.i k))]) ⟨rfl, rfl, ?_, rfl, rfl, trivial⟩).trans (wk_ren 300019 200033 rfl rfl rfl rfl)
      rw [hA1]; rfl
    · have hg : decide (k > 0) = false := hg
      rw [if_neg (of_decide_eq_false hg)] at hA1
      refine aK ?_
      refine (wk_sub (s' := [(1, .bp 1 0 []), (100001, .bx l.cw), (3, .own (.lst (A1.map prL)) 200019), (200019, .tok 22 1), (4, .val (.i k))]) ⟨rfl, rfl, ?_, rfl, rfl, trivial⟩).trans (wk_ren 200019 200033 rfl rfl rfl rfl)
      rw [hA1]; rfl
  refine awp_mid [(3, .own (.lst ((orD l).map prL)) 200034), (200034, .tok 22 1)] ?_ ?_
  · refine awp_mid [(1, .bp 1 0 []), (100001, .bx l.cw), (3, .own (.lst (A1.map prL)) 200033), (200033, .tok 22 1), (25, .val (.b (decide (k = -1 ∨ k = 2))))] ?_ ?_
    · by_cases hk1 : k = -1
      · have g : decide (k = -1) = true := decide_eq_true hk1
        refine aR ?_
        (refine nx (aM (gN rfl) rfl rfl rfl rfl rfl) rfl ?_)
        (refine nx (a_eql (gN rfl) rfl rfl rfl rfl rfl rfl) rfl ?_)
        (refine nx (aM (gN rfl) rfl rfl rfl rfl rfl) rfl ?_)
        (refine ⟨_, _, _, a_off (go_off rfl rfl rfl rfl (by first | rfl | assumption | (simp; done) | (simp [*]; done))) rfl rfl rfl, rfl, ?_⟩)
        (refine ⟨_, _, _, a_off (go_off rfl rfl rfl rfl (by first | rfl | assumption | (simp; done) | (simp [*]; done))) rfl rfl rfl, rfl, ?_⟩)
        (refine ⟨_, _, _, aPt (gN rfl) rfl rfl rfl rfl rfl ?hb rfl, rfl, ?_⟩; case hb => (first | rfl | assumption | (simp; done)))
        refine wk_sub ⟨rfl, rfl, rfl, rfl, ?_, trivial⟩
        rw [decide_eq_true (Or.inl hk1)]; rfl
      · have g : decide (k = -1) = false := decide_eq_false hk1
        refine aR ?_
        (refine nx (aM (gN rfl) rfl rfl rfl rfl rfl) rfl ?_)
        (refine nx (a_eql (gN rfl) rfl rfl rfl rfl rfl rfl) rfl ?_)
        (refine nx (aM (gN rfl) rfl rfl rfl rfl rfl) rfl ?_)
        (refine nx (aM (gd_on rfl rfl rfl rfl (by first | rfl | assumption | (simp; done))) rfl rfl rfl rfl rfl) rfl ?_)
        (refine nx (a_eql (gd_on rfl rfl rfl rfl (by first | rfl | assumption | (simp; done))) rfl rfl rfl rfl rfl rfl) rfl ?_)
        (refine ⟨_, _, _, aPf (gN rfl) rfl rfl rfl rfl rfl ?hb rfl, rfl, ?_⟩; case hb => (first | rfl | assumption | (simp; done)))
        refine wk_sub ⟨rfl, rfl, rfl, rfl, ?_, trivial⟩
        have : decide (k = -1 ∨ k = 2) = decide (k = 2) := by simp [hk1]
        rw [this]; rfl
    refine aC rfl (fun hg => ?_) (fun hg => ?_)
    · have hg : decide (k = -1 ∨ k = 2) = true := hg
      rw [if_pos (of_decide_eq_true hg)] at hOD
      refine aR ?_
      (refine nx (aM (gN rfl) rfl rfl rfl rfl rfl) rfl ?_)
      (refine nx (aF (gN rfl) rfl rfl rfl rfl rfl rfl rfl rfl rfl) rfl ?_)
      (refine nx (aLb (gN rfl) rfl rfl rfl rfl rfl rfl rfl rfl rfl rfl rfl rfl) rfl ?_)
      (refine nx (aF (gN rfl) rfl rfl rfl rfl rfl rfl rfl rfl rfl) rfl ?_)
      (refine nx (aLb (gN rfl) rfl rfl rfl rfl rfl rfl rfl rfl rfl rfl rfl rfl) rfl ?_)
      (refine nx (a_bslice (gN rfl) rfl rfl rfl rfl rfl rfl rfl rfl rfl rfl rfl rfl rfl) rfl ?_)
      (refine nx (a_bslice (gN rfl) rfl rfl rfl rfl rfl rfl rfl rfl rfl rfl rfl rfl rfl) rfl ?_)
      (refine nx (a_app (gN rfl) rfl rfl rfl rfl rfl rfl rfl rfl rfl rfl rfl rfl rfl rfl rfl (by first | assumption | exact sZ rfl | exact Tm.size_all _ | exact Bd.size_all _ | exact ints_size _ | exact bys_size _ | exact Lt.size_all _) (by first | assumption | exact sZ rfl | exact Tm.size_all _ | exact Bd.size_all _ | exact ints_size _ | exact bys_size _ | exact Lt.size_all _) (by first | omega | (simp only [List.length_map, List.length_append, List.length_cons, List.length_nil] <;> omega) | (simp <;> omega))) rfl ?_)
      (refine nx (aA (gN rfl) rfl rfl rfl rfl rfl) rfl ?_)
      refine (wk_sub (s' := [(3, .own (.lst ((orD l).map prL)) 300033), (300033, .tok 22 1)]) ⟨?_, rfl, trivial⟩).trans (wk_ren 300033 200034 rfl rfl rfl rfl)
      rw [hOD, List.map_append]; rfl
    · have hg : decide (k = -1 ∨ k = 2) = false := hg
      rw [if_neg (of_decide_eq_false hg), List.append_nil] at hOD
      refine aK ?_
      refine (wk_sub (s' := [(3, .own (.lst ((orD l).map prL)) 200033), (200033, .tok 22 1)]) ⟨?_, rfl, trivial⟩).trans (wk_ren 200033 200034 rfl rfl rfl rfl)
      rw [hOD]; rfl
  refine aS (aR ?_)
  (refine nx (aM (gN rfl) rfl rfl rfl rfl rfl) rfl ?_)
  (refine nx (aA (gN rfl) rfl rfl rfl rfl rfl) rfl ?_)
  show AWp _ _ _ _ _ _ _
  exact aT (And.intro (.inr rfl) rfl)
-- 
theorem lit14_abs (W : World) (l : Lt) (h : l.a.ok ∧ l.b.ok) : AFun Try.prog W 13 [l.cw] (.val l.cw) := by
  have hO := of11_abs W [l] (by simp) (fun x hx => by rw [List.mem_singleton] at hx; rw [hx]; exact h)
  have hsz := Lt.size_all [l]
  have hx' := Lt.map_at (c := [l]) (i := 0) (l := l) rfl
  refine afun_of (rs := [l.cw]) Try.func13 Try.ntmps13 rfl rfl rfl rfl ?_
  intro w U hW
  have hO := hO.up hW
  refine aS (aR ?_)
  (refine nx (a_box (gN rfl) rfl rfl rfl rfl rfl) rfl ?_)
  (refine nx (a_alloc (gN rfl) rfl rfl rfl rfl rfl rfl rfl rfl rfl rfl) rfl ?_)
  show AWp _ _ _ _ _ _ _
  refine aS (aR ?_)
  (refine nx (aL (gN rfl) rfl rfl rfl rfl rfl rfl rfl rfl rfl rfl rfl rfl) rfl ?_)
  (refine nx (a_bslice (gN rfl) rfl rfl rfl rfl rfl rfl rfl rfl rfl rfl rfl rfl rfl) rfl ?_)
  (refine nx (a_call (gN rfl) rfl rfl rfl rfl rfl (hO)) rfl ?_)
  (refine nx (a_index (j := 0) (gN rfl) rfl rfl rfl rfl rfl rfl rfl rfl rfl (hx') rfl (hsz)) rfl ?_)
  (refine nx (a_load_ad (gN rfl) rfl rfl rfl rfl rfl rfl rfl rfl rfl) rfl ?_)
  (refine nx (aSt (gN rfl) rfl rfl rfl rfl rfl rfl rfl rfl rfl rfl) rfl ?_)
  show AWp _ _ _ _ _ _ _
  exact aT (And.intro (.inr rfl) rfl)
def al1 : Lt := ⟨false, ⟨1, []⟩, ⟨0, []⟩⟩
def al2 : Lt := ⟨true, ⟨2, []⟩, ⟨0, []⟩⟩
theorem al_fit : ∀ l ∈ [al1, al2], l.fit := by
  have key : ∀ f : Int, 0 ≤ f → f ≤ 9 → (⟨f, []⟩ : Tm).fit := fun f h1 h2 => by
    refine ⟨?_, ?_, ?_⟩
    · exact leaf_rng (by omega) (by omega)
    · exact leaf_ok f
    · rw [leaf_size]; omega
  intro l hl
  rcases List.mem_cons.1 hl with rfl | hl
  · exact ⟨key 1 (by decide) (by decide), key 0 (by decide) (by decide)⟩
  · rw [List.mem_singleton] at hl
    subst hl
    exact ⟨key 2 (by decide) (by decide), key 0 (by decide) (by decide)⟩
theorem al_look : lokL [al1, al2] = [1] := by
  have h : hvK [al1, al2] 2 = (1, wtL al2) := by
    have h1 : hvK [al1, al2] 1 = (-1, 0) := by
      unfold hvK
      show (if al1.neg = true ∧ _ then _ else hvK [al1, al2] 0) = _
      rw [if_neg (by intro h; cases h.1)]; rfl
    unfold hvK
    show (if al2.neg = true ∧ (hvK [al1, al2] 1).2 < wtL al2 then _ else _) = _
    rw [h1, if_pos ⟨rfl, wtL_pos al2⟩]; rfl
  unfold lokL
  show (if (hvK [al1, al2] 2).1 ≥ 0 then _ else _) = _
  rw [h, if_pos (by decide)]
  show [(hvK [al1, al2] 2).1] = [1]
  rw [h]
theorem al_none : lokL [] = [] := rfl
-- 
theorem alive14_abs (W : World) : AFun Try.prog W 8 [] (.val (.b true)) := by
  have h1 := oLook_abs W [al1, al2] (by simp) al_fit
  have h2 := oLook_abs W [] (by simp) (fun l hl => by cases hl)
  rw [al_look] at h1
  rw [al_none] at h2
  refine afun_of (rs := [.b true]) Try.func8 Try.ntmps8 rfl rfl rfl rfl ?_
  intro w U hW
  have h1 := h1.up hW
  have h2 := h2.up hW
  refine aS (aR ?_)
  (refine nx (aA (gN rfl) rfl rfl rfl rfl rfl) rfl ?_)
  show AWp _ _ _ _ _ _ _
  refine aS (aR ?_)
  (refine nx (a_build (gN rfl) rfl rfl rfl rfl rfl rfl rfl rfl rfl rfl rfl) rfl ?_)
  (refine nx (a_build (gN rfl) rfl rfl rfl rfl rfl rfl rfl rfl rfl rfl rfl) rfl ?_)
  (refine nx (a_build (gN rfl) rfl rfl rfl rfl rfl rfl rfl rfl rfl rfl rfl) rfl ?_)
  (refine nx (a_build (gN rfl) rfl rfl rfl rfl rfl rfl rfl rfl rfl rfl rfl) rfl ?_)
  (refine nx (a_bslice (gN rfl) rfl rfl rfl rfl rfl rfl rfl rfl rfl rfl rfl rfl rfl) rfl ?_)
  (refine nx (a_call (gN rfl) rfl rfl rfl rfl rfl (h1)) rfl ?_)
  (refine nx (aA (gN rfl) rfl rfl rfl rfl rfl) rfl ?_)
  show AWp _ _ _ _ _ _ _
  refine aS (aR ?_)
  (refine nx (aM (gN rfl) rfl rfl rfl rfl rfl) rfl ?_)
  (refine nx (a_len (gN rfl) rfl rfl rfl rfl rfl rfl rfl) rfl ?_)
  (refine nx (a_eql (gN rfl) rfl rfl rfl rfl rfl rfl) rfl ?_)
  (refine nx (aM (gN rfl) rfl rfl rfl rfl rfl) rfl ?_)
  (refine nx (aM (gd_on rfl rfl rfl rfl (by first | rfl | assumption | (simp; done))) rfl rfl rfl rfl rfl) rfl ?_)
  (refine nx (a_index (j := 0) (gd_on rfl rfl rfl rfl (by first | rfl | assumption | (simp; done))) rfl rfl rfl rfl rfl rfl rfl rfl rfl (rfl) rfl (ints_size [1])) rfl ?_)
  (refine nx (a_load_ad (gd_on rfl rfl rfl rfl (by first | rfl | assumption | (simp; done))) rfl rfl rfl rfl rfl rfl rfl rfl rfl) rfl ?_)
  (refine nx (a_eql (gd_on rfl rfl rfl rfl (by first | rfl | assumption | (simp; done))) rfl rfl rfl rfl rfl rfl) rfl ?_)
  (refine ⟨_, _, _, aPt (gN rfl) rfl rfl rfl rfl rfl ?hb rfl, rfl, ?_⟩; case hb => (first | rfl | assumption | (simp; done)))
  (refine nx (aM (gN rfl) rfl rfl rfl rfl rfl) rfl ?_)
  (refine nx (a_call (gd_on rfl rfl rfl rfl (by first | rfl | assumption | (simp; done))) rfl rfl rfl rfl rfl (h2)) rfl ?_)
  (refine nx (a_len (gd_on rfl rfl rfl rfl (by first | rfl | assumption | (simp; done))) rfl rfl rfl rfl rfl rfl rfl) rfl ?_)
  (refine nx (a_eql (gd_on rfl rfl rfl rfl (by first | rfl | assumption | (simp; done))) rfl rfl rfl rfl rfl rfl) rfl ?_)
  (refine ⟨_, _, _, aPt (gN rfl) rfl rfl rfl rfl rfl ?hb rfl, rfl, ?_⟩; case hb => (first | rfl | assumption | (simp; done)))
  (refine nx (aA (gN rfl) rfl rfl rfl rfl rfl) rfl ?_)
  show AWp _ _ _ _ _ _ _
  exact aT (And.intro (.inr rfl) rfl)
end Go.Proofs.Ytglbohajmccehaa
namespace Go.Proofs.Ytglbohajmccehaa
open Go.RowKit
set_option linter.unusedVariables false
set_option linter.unusedSimpArgs false
theorem fine_fit {c : List Lt} {most : Nat} {size : Int} (h0 : 0 ≤ size) (h1 : size ≤ 60) (h : fineC c most size = true) : c.length ≤ most ∧ ∀ l ∈ c, l.fit := by
  obtain ⟨h2, h3⟩ := fineC_facts h0 h1 h
  refine ⟨h2, fun l hl => ?_⟩
  obtain ⟨⟨⟨_, a1, a2⟩, _, a3⟩, ⟨⟨_, b1, b2⟩, _, b3⟩⟩ := h3 l hl
  exact ⟨⟨a1, a2, by omega⟩, ⟨b1, b2, by omega⟩⟩
theorem small_fit {t : Tm} {size : Int} (h0 : 0 ≤ size) (h1 : size ≤ 60) (ht : 0 ≤ smallT t size 8) : t.fit ∧ (t.size : Int) ≤ size := by
  have hsm := small_sm t _ _ ht
  have hwt : (t.wt : Int) ≤ size := by have := (small_bounds t size 8 h0).2.2 ht; omega
  have := t.size_wt
  exact ⟨⟨Tm.sm_rng hsm, Tm.wt_ok (t := t) (by omega), by omega⟩, by omega⟩
section
variable {P : Program} {w0 : World} {U0 : UX} {nt : Nat} {ops : Array Oper} {o : Oper} {S : Nat → Option AV} {gs : List Nat} {d : Nat}

theorem a_idxAd (j : Nat) (hg : Gd w0 U0 nt ops o gs S) (hd : o.dst = some d) (hn : Nat.blt d nt = true) (h5 : Nat.blt d 100000 = true) {x y : Operand} {ty e : TypeId} {m z : Nat} {l : List CV} {c : CV} {m' : Nat} {v' n q p} {i : Int} {kd : IntKind} {n2 q2 p2} (ho : o.op = .indexAddr ty x y) (hu : P.underlying ty = some (.array m e)) (hz : (P.info? e).map (·.size) = some z) (hx : ev S x = some ⟨3, ⟨2, v', l⟩, n, q, p⟩) (hy : ev S y = some ⟨0, .sc (.int kd i), n2, q2, p2⟩) (hi : i = (j : Int)) (hj : Nat.blt j m = true) (hz0 : Nat.beq z 0 = false) (hc : preO l j = some (m', c)) (hm : m' = j * z) : AOp P w0 U0 nt ops o (gs ++ (rd x ++ rd y)) [] S [(d, .ad c)] :=
  aop_val hg hd hn h5 (fun k hk => List.mem_append_left _ hk) fun s hs a w D hv hmm => by
    obtain ⟨b, off, xs, h1, h2, h3⟩ : ∃ b off xs, a.eval x = .pointer (some ⟨b, off, none⟩) ∧ Rep (Us w0 U0 D) w ⟨2, v', l⟩ xs ∧ ∀ i, i < xs.length → Us w0 U0 D b (off + i) ∧ w.cell? ⟨b, off + i, none⟩ = xs[i]? := ev_rep hmm (fun k hk => hs k (List.mem_append_right _ (List.mem_append_left _ hk))) hx
    have e2 := ev_sc hmm (fun k hk => hs k (List.mem_append_right _ (List.mem_append_right _ hk))) hy
    have hsz := run_sizeOf (P := P) (w := w) hz
    have hj := bL hj
    subst hi
    have hadd := add_at b off (j * z)
    rw [Rep, if_pos rfl] at h2
    obtain ⟨_, h4⟩ := preO_spec (f := fun c => Rep (Us w0 U0 D) w c) (fun c xs h => h.len) hc
    obtain ⟨ys, zs, us, e3, e1, e4, _⟩ := h4 h2
    refine ⟨.pointer (some ⟨b, off + j * z, none⟩), ?_, b, off + j * z, zs, rfl, e4, fun i hi => ?_⟩
    · generalize a.eval = ρ at h1 e2 ⊢
      simp [execOp, ho, Instr.indexAt, asIntOf, run_underlying hu, Instr.sureAddr, h1, e2, hj, hsz, hadd]
    · have := h3 (ys.length + i) (by rw [e3]; simp; omega)
      rw [e3, e1, hm] at this
      rw [Nat.add_assoc]
      refine ⟨this.1, this.2.trans ?_⟩
      rw [← hm, ← e1, List.append_assoc, List.getElem?_append_right (by omega), List.getElem?_append_left (by omega)]
      congr 1
      omega
end
end Go.Proofs.Ytglbohajmccehaa
