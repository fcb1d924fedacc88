/-
  EqAll: what follows from any clause by resolution and by factoring of equals.
-/
import Derived.Test.YtglmoficcjphaaaGreatMg14
import Derived.Test.YtglmoficcjphaaaGreatAbShp
namespace Go.Proofs.YtglmoficcjphaaaGreat
open Go.RowKit
set_option linter.unusedVariables false
set_option linter.unusedSimpArgs false
set_option maxRecDepth 100000

-- 
set_option maxHeartbeats 4000000 in
theorem eqAll_abs (W : World) (c : List Lt) (i : Int) (hr : okC c) : AFun Tryz.prog W 3 [.lst (c.map Lt.cv), .i i] (.val (.b true)) := by
  refine afun_of (rs := [.b true]) Tryz.func3 Tryz.ntmps3 rfl rfl rfl rfl ?_
  intro w U hW
  refine aS (aR ?_)
  (refine nx (aA (gN rfl) rfl rfl rfl rfl rfl) rfl ?_)
  show AWp _ _ _ _ _ _ _
  refine aS (aS (aR ?_))
  (refine nx (a_call (gN rfl) rfl rfl rfl rfl rfl (alive15_abs w)) rfl ?_)
  (refine nx (a_not (gN rfl) rfl rfl rfl rfl rfl) rfl ?_)
  show AWp _ _ _ _ _ _ _
  refine aC rfl (fun hc => by cases hc) (fun _ => aK ?_)
  show AWp _ _ _ _ _ _ _
  have hfi := fine11_abs w c 4 10 (by decide) (by decide) (by decide) hr
  cases hF : fineC c 4 10 with
  | false =>
    rw [hF] at hfi
    refine aS (aS (aR ?_))
    (refine nx (aM (gN rfl) rfl rfl rfl rfl rfl) rfl ?_)
    (refine nx (a_call (gN rfl) rfl rfl rfl rfl rfl (hfi)) rfl ?_)
    (refine nx (a_not (gN rfl) rfl rfl rfl rfl rfl) rfl ?_)
    show AWp _ _ _ _ _ _ _
    refine aC rfl (fun hc => ?_) (fun hc => by cases hc)
    refine aS (aR ?_)
    (refine nx (aA (gN rfl) rfl rfl rfl rfl rfl) rfl ?_)
    show AWp _ _ _ _ _ _ _
    exact aT (And.intro (.inr rfl) rfl)
  | true =>
  rw [hF] at hfi
  obtain ⟨hcl, hct⟩ := fine_ten (by decide) (by decide) hF
  have hfit := ten_fit hct
  have hok : ∀ l ∈ c, l.a.ok ∧ l.b.ok := fun l hl => ⟨(hfit l hl).1.2, (hfit l hl).2.2⟩
  refine aS (aS (aR ?_))
  (refine nx (aM (gN rfl) rfl rfl rfl rfl rfl) rfl ?_)
  (refine nx (a_call (gN rfl) rfl rfl rfl rfl rfl (hfi)) rfl ?_)
  (refine nx (a_not (gN rfl) rfl rfl rfl rfl rfl) rfl ?_)
  show AWp _ _ _ _ _ _ _
  refine aC rfl (fun hc => by cases hc) (fun _ => aK ?_)
  show AWp _ _ _ _ _ _ _
  refine aS (aR ?_)
  (refine nx (aM (gN rfl) rfl rfl rfl rfl rfl) rfl ?_)
  (refine nx (a_call (gN rfl) rfl rfl rfl rfl rfl (of11_abs w c (by omega) hok)) rfl ?_)
  (refine nx (aA (gN rfl) rfl rfl rfl rfl rfl) rfl ?_)
  show AWp _ _ _ _ _ _ _
  -- resolution
  have hA : ∀ d ∈ resA1 c, d.length ≤ 1000000 ∧ ∀ l ∈ d, l.a.ok ∧ l.b.ok := fun d hd => by
    obtain ⟨h1, h2⟩ := res_fit hct hd
    exact ⟨by omega, fun l hl => ⟨(h2 l hl).1.2.1, (h2 l hl).2.2.1⟩⟩
  have hAl : (resA1 c).length ≤ 100 := by have := res_len c; omega
  have c1 := eRes_abs w c (by omega) hct
  have c2 := to15_abs w (resA1 c) (by omega) hA
  have c3 := rRes_abs w c (by omega) hct
  have c4 := sameAll_abs w (stC (resA1 c)) (resD c c.length) (by unfold stC; rw [List.length_map]; omega) (stC_fit hA) (fun d hd => resD_fit hct hd) (by rw [stC2]; exact res_doc hct)
  -- factoring
  have hB : ∀ d ∈ facA c, d.length ≤ 1000000 ∧ ∀ l ∈ d, l.a.ok ∧ l.b.ok := fun d hd => by
    obtain ⟨h1, h2, _⟩ := fac_fit hct hd
    exact ⟨by omega, fun l hl => ⟨(h2 l hl).1.2.1, (h2 l hl).2.2.1⟩⟩
  have hBl : (facA c).length ≤ 100 := by
    have h1 := fac_len c
    have h2 : 4 * c.length * (c.length + 1) ≤ 16 * 5 := Nat.mul_le_mul (by omega) (by omega)
    omega
  have d1 := eFactor_abs w c (by omega) hct
  have d2 := to15_abs w (facA c) (by omega) hB
  have d3 := rFactor_abs w c (by omega) hct
  have d4 := sameAll_abs w (stC (facA c)) (facD c (4 * c.length * c.length)) (by unfold stC; rw [List.length_map]; omega) (stC_fit hB) (fun d hd => facD_fit hct hd) (by rw [stC2]; exact fac_doc hct)
  -- without
  obtain ⟨V, hV⟩ : ∃ V, V = if 0 ≤ i ∧ i < c.length then offL c i.toNat else c := ⟨_, rfl⟩
  have hVm : ∀ l ∈ V, l ∈ c := fun l hl => by
    rw [hV] at hl
    split at hl
    · exact offL_mem hl
    · exact hl
  have hVl : V.length ≤ c.length := by
    rw [hV]
    split
    · rename_i h; have := offL_len (c := c) (n := i.toNat) (by omega); omega
    · exact Nat.le_refl _
  have e1 := eWithout_abs w c i (by omega) hfit
  have e2 := to11_abs w (V.map Lt.strip) (by rw [List.length_map]; omega) (fun l hl => by
    obtain ⟨x, hx, rfl⟩ := List.mem_map.1 hl
    exact ⟨Tm.strip_ok (hok x (hVm x hx)).1, Tm.strip_ok (hok x (hVm x hx)).2⟩)
  have e3 := rWithout_abs w c i (by omega)
  rw [offD_eq, ← hV] at e3
  rw [← hV] at e1
  rw [strips2] at e2
  have e4 := same11_abs w (V.map Lt.strip) V (by rw [List.length_map]; omega) (fun l hl => by
    obtain ⟨x, hx, rfl⟩ := List.mem_map.1 hl
    exact ⟨Tm.strip_ok (hok x (hVm x hx)).1, Tm.strip_ok (hok x (hVm x hx)).2⟩) (fun l hl => hok l (hVm l hl))
  rw [sameC_iff.2 (strips2 V)] at e4
  -- the clause itself
  have g1 := to11_abs w c (by omega) hok
  have g2 := same11_abs w (c.map Lt.strip) c (by rw [List.length_map]; omega) (fun l hl => by
    obtain ⟨x, hx, rfl⟩ := List.mem_map.1 hl
    exact ⟨Tm.strip_ok (hok x hx).1, Tm.strip_ok (hok x hx).2⟩) hok
  rw [sameC_iff.2 (strips2 c)] at g2
  refine aS (aR ?_)
  (refine nx (aM (gN rfl) rfl rfl rfl rfl rfl) rfl ?_)
  (refine nx (a_call (gN rfl) rfl rfl rfl rfl rfl (c1)) rfl ?_)
  (refine nx (a_call (gN rfl) rfl rfl rfl rfl rfl (c2)) rfl ?_)
  (refine nx (aM (gN rfl) rfl rfl rfl rfl rfl) rfl ?_)
  (refine nx (a_call (gN rfl) rfl rfl rfl rfl rfl (c3)) rfl ?_)
  (refine nx (a_call (gN rfl) rfl rfl rfl rfl rfl (c4)) rfl ?_)
  (refine nx (aM (gN rfl) rfl rfl rfl rfl rfl) rfl ?_)
  (refine nx (aM (gd_on rfl rfl rfl rfl (by first | rfl | assumption | (simp; done))) rfl rfl rfl rfl rfl) rfl ?_)
  (refine nx (a_call (gd_on rfl rfl rfl rfl (by first | rfl | assumption | (simp; done))) rfl rfl rfl rfl rfl (d1)) rfl ?_)
  (refine nx (a_call (gd_on rfl rfl rfl rfl (by first | rfl | assumption | (simp; done))) rfl rfl rfl rfl rfl (d2)) rfl ?_)
  (refine nx (aM (gd_on rfl rfl rfl rfl (by first | rfl | assumption | (simp; done))) rfl rfl rfl rfl rfl) rfl ?_)
  (refine nx (a_call (gd_on rfl rfl rfl rfl (by first | rfl | assumption | (simp; done))) rfl rfl rfl rfl rfl (d3)) rfl ?_)
  (refine nx (a_call (gd_on rfl rfl rfl rfl (by first | rfl | assumption | (simp; done))) rfl rfl rfl rfl rfl (d4)) rfl ?_)
  (refine ⟨_, _, _, aPt (gN rfl) rfl rfl rfl rfl rfl ?hb rfl, rfl, ?_⟩; case hb => (first | rfl | assumption | (simp; done)))
  (refine nx (aM (gN rfl) rfl rfl rfl rfl rfl) rfl ?_)
  (refine nx (aM (gd_on rfl rfl rfl rfl (by first | rfl | assumption | (simp; done))) rfl rfl rfl rfl rfl) rfl ?_)
  (refine nx (aM (gd_on rfl rfl rfl rfl (by first | rfl | assumption | (simp; done))) rfl rfl rfl rfl rfl) rfl ?_)
  (refine nx (a_call (gd_on rfl rfl rfl rfl (by first | rfl | assumption | (simp; done))) rfl rfl rfl rfl rfl (e1)) rfl ?_)
  (refine nx (a_call (gd_on rfl rfl rfl rfl (by first | rfl | assumption | (simp; done))) rfl rfl rfl rfl rfl (e2)) rfl ?_)
  (refine nx (aM (gd_on rfl rfl rfl rfl (by first | rfl | assumption | (simp; done))) rfl rfl rfl rfl rfl) rfl ?_)
  (refine nx (aM (gd_on rfl rfl rfl rfl (by first | rfl | assumption | (simp; done))) rfl rfl rfl rfl rfl) rfl ?_)
  (refine nx (a_call (gd_on rfl rfl rfl rfl (by first | rfl | assumption | (simp; done))) rfl rfl rfl rfl rfl (e3)) rfl ?_)
  (refine nx (a_call (gd_on rfl rfl rfl rfl (by first | rfl | assumption | (simp; done))) rfl rfl rfl rfl rfl (e4)) rfl ?_)
  (refine ⟨_, _, _, aPt (gN rfl) rfl rfl rfl rfl rfl ?hb rfl, rfl, ?_⟩; case hb => (first | rfl | assumption | (simp; done)))
  (refine nx (aM (gN rfl) rfl rfl rfl rfl rfl) rfl ?_)
  (refine nx (aM (gd_on rfl rfl rfl rfl (by first | rfl | assumption | (simp; done))) rfl rfl rfl rfl rfl) rfl ?_)
  (refine nx (a_call (gd_on rfl rfl rfl rfl (by first | rfl | assumption | (simp; done))) rfl rfl rfl rfl rfl (g1)) rfl ?_)
  (refine nx (aM (gd_on rfl rfl rfl rfl (by first | rfl | assumption | (simp; done))) rfl rfl rfl rfl rfl) rfl ?_)
  (refine nx (a_call (gd_on rfl rfl rfl rfl (by first | rfl | assumption | (simp; done))) rfl rfl rfl rfl rfl (g2)) rfl ?_)
  (refine ⟨_, _, _, aPt (gN rfl) rfl rfl rfl rfl rfl ?hb rfl, rfl, ?_⟩; case hb => (first | rfl | assumption | (simp; done)))
  (refine nx (aA (gN rfl) rfl rfl rfl rfl rfl) rfl ?_)
  show AWp _ _ _ _ _ _ _
  exact aT (And.intro (.inr rfl) rfl)
theorem shp_bool {n : Nat} {c : CV} (h : Shp Tryz.prog n 4 c) : ∃ b, c = .b b := by
  cases n with
  | zero => exact h.elim
  | succ n =>
    rw [Shp, Tryz.underlying4] at h
    exact h
theorem shp_lits {n : Nat} {c : CV} (h : Shp Tryz.prog n 22 c) : ∃ l : List Lt, c = .lst (l.map Lt.cv) ∧ okC l := by
  cases n with
  | zero => exact h.elim
  | succ n =>
    rw [Shp, Tryz.underlying22] at h
    obtain ⟨l, rfl, hl⟩ := h
    obtain ⟨m, h1, h2⟩ := list_of Lt.cv (fun l => l.a.rng ∧ l.b.rng) (l := l) (fun x hx => by
      have hx := hl x hx
      cases n with
      | zero => exact hx.elim
      | succ n =>
        have hx : Shp Tryz.prog (n + 1) 53 x := hx
        rw [Shp, Tryz.underlying53] at hx
        obtain ⟨l, rfl, hl, hf⟩ := hx
        match l, hl with
        | [x, y, z], _ =>
          obtain ⟨b, rfl⟩ := shp_bool (hf 0 _ x rfl rfl)
          obtain ⟨t, rfl, ht⟩ := shp_tm n (hf 1 _ y rfl rfl)
          obtain ⟨u, rfl, hu⟩ := shp_tm n (hf 2 _ z rfl rfl)
          exact ⟨⟨b, t, u⟩, rfl, ht, hu⟩)
    exact ⟨m, by rw [h1], h2⟩
end Go.Proofs.YtglmoficcjphaaaGreat

