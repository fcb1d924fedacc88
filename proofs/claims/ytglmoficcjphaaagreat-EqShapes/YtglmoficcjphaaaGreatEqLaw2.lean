/-
  EqShapes: how long what follows is; renaming plays no part.
-/
import Derived.Test.YtglmoficcjphaaaGreatMg12
import Derived.Test.YtglmoficcjphaaaGreatAbShp
namespace Go.Proofs.YtglmoficcjphaaaGreat
open Go.RowKit
set_option linter.unusedVariables false
set_option linter.unusedSimpArgs false
set_option maxRecDepth 100000

theorem sm_v1 {t : Tm} (h : t.sm) : ∀ v ∈ t.vs, v < 1000 := fun v hv => vs_le (fun s hs => (Tm.sm_flat h s hs).1) v hv
theorem ren_shV {c : List Lt} (h : ∀ l ∈ c, l.a.sm ∧ l.b.sm) {b : Int} (hb : 0 ≤ b ∧ b ≤ 255) : c.map (Lt.rep fun v => varT (upV (max b 0) v)) = c.map (Lt.rep (shV b)) := List.map_congr_left fun l hl => by
  have e : ∀ t : Tm, t.sm → repT (fun v => varT (upV (max b 0) v)) t = repT (shV b) t := fun t ht => rep_congr fun v hv => by
    have h1 := sm_v1 ht v hv
    have h2 := vs_nonneg t v hv
    show varT _ = varT _
    congr 1
    unfold upV
    omega
  unfold Lt.rep
  rw [e _ (h l hl).1, e _ (h l hl).2]
theorem sh_ten {t : Tm} (hs : t.sm) (h : t.ten) {b : Int} (hb : 0 ≤ b ∧ b ≤ 255) : (repT (shV b) t).ten := by
  have e : repT (shV b) t = repT (fun v => varT (upV (max b 0) v)) t := rep_congr fun v hv => by
    have h1 := sm_v1 hs v hv
    have h2 := vs_nonneg t v hv
    show varT _ = varT _
    congr 1
    unfold upV
    omega
  refine ⟨⟨?_, ?_⟩, by rw [sh_size hb.1]; exact h.2⟩
  · rw [e]
    exact repT_rng h.1.1 fun v h1 h2 => varT_rng (upV_ok h1 h2 (by omega)).1 (upV_ok h1 h2 (by omega)).2
  · exact repT_ok h.1.2 fun v => varT_ok _
theorem lok_nil : lokL [] = [] := by
  unfold lokL
  rw [if_neg (show ¬ (hvK [] ([] : List Lt).length).1 ≥ 0 from (show ¬ (-1 : Int) ≥ 0 by decide))]
  rfl
theorem len_one {A : List (List Lt)} (h : A.length ≤ 1) : A = [] ∨ ∃ d, A = [d] := by
  match A, h with
  | [], _ => exact .inl rfl
  | [d], _ => exact .inr ⟨d, rfl⟩
  | _ :: _ :: _, h => simp at h
-- 
set_option maxHeartbeats 8000000 in
theorem eqShapes_abs (W : World) (c : List Lt) (b : Int) (hr : okC c) (hb : 0 ≤ b ∧ b ≤ 255) : AFun Tryz.prog W 4 [.lst (c.map Lt.cv), .sc (.int .u8 b)] (.val (.b true)) := by
  refine afun_of (rs := [.b true]) Tryz.func4 Tryz.ntmps4 rfl rfl rfl rfl ?_
  intro w U hW
  refine aS (aR ?_)
  (refine nx (aA (gN rfl) rfl rfl rfl rfl rfl) rfl ?_)
  show AWp _ _ _ _ _ _ _
  refine aS (aS (aR ?_))
  (refine nx (a_call (gN rfl) rfl rfl rfl rfl rfl (alive15_abs w)) rfl ?_)
  (refine nx (a_not (gN rfl) rfl rfl rfl rfl rfl) rfl ?_)
  show AWp _ _ _ _ _ _ _
  refine aC rfl (fun hc => by cases hc) (fun _ => aK ?_)
  show AWp _ _ _ _ _ _ _
  have hfi := fine11_abs w c 4 10 (by decide) (by decide) (by decide) hr
  cases hF : fineC c 4 10 with
  | false =>
    rw [hF] at hfi
    refine aS (aS (aR ?_))
    (refine nx (aM (gN rfl) rfl rfl rfl rfl rfl) rfl ?_)
    (refine nx (a_call (gN rfl) rfl rfl rfl rfl rfl (hfi)) rfl ?_)
    (refine nx (a_not (gN rfl) rfl rfl rfl rfl rfl) rfl ?_)
    show AWp _ _ _ _ _ _ _
    refine aC rfl (fun hc => ?_) (fun hc => by cases hc)
    refine aS (aR ?_)
    (refine nx (aA (gN rfl) rfl rfl rfl rfl rfl) rfl ?_)
    show AWp _ _ _ _ _ _ _
    exact aT (And.intro (.inr rfl) rfl)
  | true =>
  rw [hF] at hfi
  obtain ⟨hcl, hct⟩ := fine_ten (by decide) (by decide) hF
  have hsm : ∀ l ∈ c, l.a.sm ∧ l.b.sm := fun l hl => by
    obtain ⟨_, h3⟩ := fineC_facts (by decide) (by decide) hF
    exact ⟨(h3 l hl).1.1.1, (h3 l hl).2.1.1⟩
  have hfit := ten_fit hct
  have hok : ∀ l ∈ c, l.a.ok ∧ l.b.ok := fun l hl => ⟨(hfit l hl).1.2, (hfit l hl).2.2⟩
  have hclm : (c.map Lt.cv).length = c.length := List.length_map ..
  have hct' : ∀ l ∈ c, (Lt.rep (shV b) l).ten := fun l hl => ⟨sh_ten (hsm l hl).1 (hct l hl).1 hb, sh_ten (hsm l hl).2 (hct l hl).2 hb⟩
  obtain ⟨c', hc'⟩ : ∃ c', c' = c.map (Lt.rep (shV b)) := ⟨_, rfl⟩
  have hcl' : c'.length = c.length := by rw [hc', List.length_map]
  have hct2 : ∀ l ∈ c', l.ten := fun l hl => by
    rw [hc'] at hl
    obtain ⟨x, hx, rfl⟩ := List.mem_map.1 hl
    exact hct' x hx
  have hC5 : okC5 c := ⟨by omega, fun l hl => ⟨⟨(hct l hl).1.1.1, (hct l hl).1.1.2, by have := (hct l hl).1.2; omega⟩, (hct l hl).2.1.1, (hct l hl).2.1.2, by have := (hct l hl).2.2; omega⟩⟩
  have hre := cRename_abs w c b (by omega) hC5.sid.1 hC5.sid.2.1
  rw [ren_shV hsm hb, ← hc'] at hre
  have hVA : VL (resA1 c) (resA1 c') := by rw [hc']; exact res_sh hb.1 hct hct'
  have hVB : VL (facA c) (facA c') := by rw [hc']; exact fac_sh hb.1 hct hct'
  have fA : ∀ d ∈ resA1 c, d.length + 1 = c.length ∧ okC5 d := fun d hd => by
    obtain ⟨h1, h2⟩ := res_fit hct hd
    exact ⟨h1, by omega, h2⟩
  have fA' : ∀ d ∈ resA1 c', okC5 d := fun d hd => by
    obtain ⟨h1, h2⟩ := res_fit hct2 hd
    exact ⟨by omega, h2⟩
  have fB : ∀ d ∈ facA c, d.length = c.length ∧ okC5 d ∧ ∃ l, d[c.length - 1]? = some l ∧ l.neg = true := fun d hd => by
    obtain ⟨h1, h2, h3⟩ := fac_fit hct hd
    exact ⟨h1, ⟨by omega, h2⟩, h3⟩
  have fB' : ∀ d ∈ facA c', okC5 d := fun d hd => by
    obtain ⟨h1, h2, _⟩ := fac_fit hct2 hd
    exact ⟨by omega, h2⟩
  have hBl : (facA c).length ≤ 100 := by
    have h1 := fac_len c
    have h2 : 4 * c.length * (c.length + 1) ≤ 16 * 5 := Nat.mul_le_mul (by omega) (by omega)
    omega
  have hRF := res_fac c
  have r1 := eRes_abs w c (by omega) hct
  have r2 := eRes_abs w c' (by omega) hct2
  have r3 := eFactor_abs w c (by omega) hct
  have r4 := eFactor_abs w c' (by omega) hct2
  have z1 : AFun Tryz.prog w 12 [.lst []] (.val (.lst [])) := by
    have h := eRes_abs w [] (by simp) (fun l hl => by cases hl)
    rw [show resA1 [] = [] by unfold resA1; rw [lok_nil]; rfl] at h
    exact h
  have z2 : AFun Tryz.prog w 14 [.lst []] (.val (.lst [])) := by
    have h := eFactor_abs w [] (by simp) (fun l hl => by cases hl)
    rw [show facA [] = [] by unfold facA; rw [lok_nil]; rfl] at h
    exact h
  obtain ⟨A, hA⟩ : ∃ A, A = resA1 c := ⟨_, rfl⟩
  obtain ⟨A', hA'⟩ : ∃ A, A = resA1 c' := ⟨_, rfl⟩
  obtain ⟨B, hB⟩ : ∃ A, A = facA c := ⟨_, rfl⟩
  obtain ⟨B', hB'⟩ : ∃ A, A = facA c' := ⟨_, rfl⟩
  rw [← hA, ← hA'] at hVA
  rw [← hB, ← hB'] at hVB
  rw [← hA] at fA r1 hRF
  rw [← hA'] at fA' r2
  rw [← hB] at fB r3 hRF hBl
  rw [← hB'] at fB' r4
  have hszA := clC_size A
  have hszA' := clC_size A'
  have hszB := clC_size B
  have hszB' := clC_size B'
  have lA : (A.map clC).length = A.length := List.length_map ..
  have lA' : (A'.map clC).length = A'.length := List.length_map ..
  have lB : (B.map clC).length = B.length := List.length_map ..
  have lB' : (B'.map clC).length = B'.length := List.length_map ..
  have vA := hVA.1
  have vB := hVB.1
  refine aS (aS (aR ?_))
  (refine nx (aM (gN rfl) rfl rfl rfl rfl rfl) rfl ?_)
  (refine nx (a_call (gN rfl) rfl rfl rfl rfl rfl (hfi)) rfl ?_)
  (refine nx (a_not (gN rfl) rfl rfl rfl rfl rfl) rfl ?_)
  show AWp _ _ _ _ _ _ _
  refine aC rfl (fun hc => by cases hc) (fun _ => aK ?_)
  show AWp _ _ _ _ _ _ _
  refine aS (aR ?_)
  (refine nx (aM (gN rfl) rfl rfl rfl rfl rfl) rfl ?_)
  (refine nx (a_call (gN rfl) rfl rfl rfl rfl rfl (of11_abs w c (by omega) hok)) rfl ?_)
  (refine nx (aA (gN rfl) rfl rfl rfl rfl rfl) rfl ?_)
  show AWp _ _ _ _ _ _ _
  refine aS (aR ?_)
  (refine nx (aM (gN rfl) rfl rfl rfl rfl rfl) rfl ?_)
  (refine nx (aM (gN rfl) rfl rfl rfl rfl rfl) rfl ?_)
  (refine nx (a_conv (gN rfl) rfl rfl rfl rfl rfl rfl rfl (by first | rfl | (rw [IntKind.wrap_i64]; omega) | assumption)) rfl ?_)
  (refine nx (a_call (gN rfl) rfl rfl rfl rfl rfl (hre)) rfl ?_)
  (refine nx (aA (gN rfl) rfl rfl rfl rfl rfl) rfl ?_)
  show AWp _ _ _ _ _ _ _
  refine aS (aR ?_)
  (refine nx (aM (gN rfl) rfl rfl rfl rfl rfl) rfl ?_)
  (refine nx (a_call (gN rfl) rfl rfl rfl rfl rfl (r1)) rfl ?_)
  (refine nx (aM (gN rfl) rfl rfl rfl rfl rfl) rfl ?_)
  (refine nx (a_call (gN rfl) rfl rfl rfl rfl rfl (r2)) rfl ?_)
  (refine nx (aA (gN rfl) rfl rfl rfl rfl rfl) rfl ?_)
  (refine nx (aA (gN rfl) rfl rfl rfl rfl rfl) rfl ?_)
  show AWp _ _ _ _ _ _ _
  refine aS (aR ?_)
  (refine nx (aM (gN rfl) rfl rfl rfl rfl rfl) rfl ?_)
  (refine nx (a_call (gN rfl) rfl rfl rfl rfl rfl (r3)) rfl ?_)
  (refine nx (aM (gN rfl) rfl rfl rfl rfl rfl) rfl ?_)
  (refine nx (a_call (gN rfl) rfl rfl rfl rfl rfl (r4)) rfl ?_)
  (refine nx (aA (gN rfl) rfl rfl rfl rfl rfl) rfl ?_)
  (refine nx (aA (gN rfl) rfl rfl rfl rfl rfl) rfl ?_)
  show AWp _ _ _ _ _ _ _
  have g1 : decide (((A.map clC).length : Int) ≠ ((A'.map clC).length : Int)) = false := decide_eq_false (by omega)
  have g2 : decide (((B.map clC).length : Int) ≠ ((B'.map clC).length : Int)) = false := decide_eq_false (by omega)
  have g5 : decide (((A.map clC).length : Int) > 1) = false := decide_eq_false (by have := hRF.1; omega)
  refine aS (awp_mid [(5, .val (.lst (c.map Lt.cv))), (7, .val (.lst (A.map clC))), (8, .val (.lst (A'.map clC))), (9, .val (.lst (B.map clC))), (10, .val (.lst (B'.map clC))), (58, .val (.b (decide (((A.map clC).length : Int) > 1))))] ?_ ?_)
  · by_cases h0 : A.length = 0
    · have g3 : decide (((A.map clC).length : Int) > 0) = false := decide_eq_false (by omega)
      refine aR ?_
      (refine nx (aM (gN rfl) rfl rfl rfl rfl rfl) rfl ?_)
      (refine nx (a_len (gN rfl) rfl rfl rfl rfl rfl rfl rfl) rfl ?_)
      (refine nx (aM (gN rfl) rfl rfl rfl rfl rfl) rfl ?_)
      (refine nx (a_len (gN rfl) rfl rfl rfl rfl rfl rfl rfl) rfl ?_)
      (refine nx (a_neq (gN rfl) rfl rfl rfl rfl rfl rfl) rfl ?_)
      (refine nx (aM (gN rfl) rfl rfl rfl rfl rfl) rfl ?_)
      (refine nx (aM (gd_on rfl rfl rfl rfl (by first | rfl | assumption | (simp; done))) rfl rfl rfl rfl rfl) rfl ?_)
      (refine nx (a_len (gd_on rfl rfl rfl rfl (by first | rfl | assumption | (simp; done))) rfl rfl rfl rfl rfl rfl rfl) rfl ?_)
      (refine nx (aM (gd_on rfl rfl rfl rfl (by first | rfl | assumption | (simp; done))) rfl rfl rfl rfl rfl) rfl ?_)
      (refine nx (a_len (gd_on rfl rfl rfl rfl (by first | rfl | assumption | (simp; done))) rfl rfl rfl rfl rfl rfl rfl) rfl ?_)
      (refine nx (a_neq (gd_on rfl rfl rfl rfl (by first | rfl | assumption | (simp; done))) rfl rfl rfl rfl rfl rfl) rfl ?_)
      (refine ⟨_, _, _, aPf (gN rfl) rfl rfl rfl rfl rfl ?hb rfl, rfl, ?_⟩; case hb => (first | rfl | assumption | (simp; done)))
      (refine nx (aM (gN rfl) rfl rfl rfl rfl rfl) rfl ?_)
      (refine nx (aM (gd_on rfl rfl rfl rfl (by first | rfl | assumption | (simp; done))) rfl rfl rfl rfl rfl) rfl ?_)
      (refine nx (a_len (gd_on rfl rfl rfl rfl (by first | rfl | assumption | (simp; done))) rfl rfl rfl rfl rfl rfl rfl) rfl ?_)
      (refine nx (a_gtr (gd_on rfl rfl rfl rfl (by first | rfl | assumption | (simp; done))) rfl rfl rfl rfl rfl rfl) rfl ?_)
      (refine nx (aM (gd_on rfl rfl rfl rfl (by first | rfl | assumption | (simp; done))) rfl rfl rfl rfl rfl) rfl ?_)
      (refine ⟨_, _, _, a_offt (go_off rfl rfl rfl rfl (by first | rfl | assumption | (simp; done) | (simp [*]; done))) rfl rfl rfl, rfl, ?_⟩)
      (refine ⟨_, _, _, a_offt (go_off rfl rfl rfl rfl (by first | rfl | assumption | (simp; done) | (simp [*]; done))) rfl rfl rfl, rfl, ?_⟩)
      (refine ⟨_, _, _, a_offt (go_off rfl rfl rfl rfl (by first | rfl | assumption | (simp; done) | (simp [*]; done))) rfl rfl rfl, rfl, ?_⟩)
      (refine ⟨_, _, _, aPf (gd_on rfl rfl rfl rfl (by first | rfl | assumption | (simp; done))) rfl rfl rfl rfl rfl ?hb rfl, rfl, ?_⟩; case hb => (first | rfl | assumption | (simp; done)))
      (refine ⟨_, _, _, aPf (gN rfl) rfl rfl rfl rfl rfl ?hb rfl, rfl, ?_⟩; case hb => (first | rfl | assumption | (simp; done)))
      (refine nx (aM (gN rfl) rfl rfl rfl rfl rfl) rfl ?_)
      (refine nx (aM (gd_on rfl rfl rfl rfl (by first | rfl | assumption | (simp; done))) rfl rfl rfl rfl rfl) rfl ?_)
      (refine nx (a_len (gd_on rfl rfl rfl rfl (by first | rfl | assumption | (simp; done))) rfl rfl rfl rfl rfl rfl rfl) rfl ?_)
      (refine nx (a_gtr (gd_on rfl rfl rfl rfl (by first | rfl | assumption | (simp; done))) rfl rfl rfl rfl rfl rfl) rfl ?_)
      (refine ⟨_, _, _, aPf (gN rfl) rfl rfl rfl rfl rfl ?hb rfl, rfl, ?_⟩; case hb => (first | rfl | assumption | (simp; done)))
      exact wk_sub ⟨rfl, rfl, rfl, rfl, rfl, rfl, trivial⟩
    · have hB0 : B = [] := by
        rcases hRF.2 with h | h
        · rw [h] at h0; exact absurd rfl h0
        · exact h
      have hB1 : B.length = 0 := by rw [hB0]; rfl
      have g3 : decide (((A.map clC).length : Int) > 0) = true := decide_eq_true (by omega)
      have g4 : decide (((B.map clC).length : Int) > 0) = false := decide_eq_false (by omega)
      refine aR ?_
      (refine nx (aM (gN rfl) rfl rfl rfl rfl rfl) rfl ?_)
      (refine nx (a_len (gN rfl) rfl rfl rfl rfl rfl rfl rfl) rfl ?_)
      (refine nx (aM (gN rfl) rfl rfl rfl rfl rfl) rfl ?_)
      (refine nx (a_len (gN rfl) rfl rfl rfl rfl rfl rfl rfl) rfl ?_)
      (refine nx (a_neq (gN rfl) rfl rfl rfl rfl rfl rfl) rfl ?_)
      (refine nx (aM (gN rfl) rfl rfl rfl rfl rfl) rfl ?_)
      (refine nx (aM (gd_on rfl rfl rfl rfl (by first | rfl | assumption | (simp; done))) rfl rfl rfl rfl rfl) rfl ?_)
      (refine nx (a_len (gd_on rfl rfl rfl rfl (by first | rfl | assumption | (simp; done))) rfl rfl rfl rfl rfl rfl rfl) rfl ?_)
      (refine nx (aM (gd_on rfl rfl rfl rfl (by first | rfl | assumption | (simp; done))) rfl rfl rfl rfl rfl) rfl ?_)
      (refine nx (a_len (gd_on rfl rfl rfl rfl (by first | rfl | assumption | (simp; done))) rfl rfl rfl rfl rfl rfl rfl) rfl ?_)
      (refine nx (a_neq (gd_on rfl rfl rfl rfl (by first | rfl | assumption | (simp; done))) rfl rfl rfl rfl rfl rfl) rfl ?_)
      (refine ⟨_, _, _, aPf (gN rfl) rfl rfl rfl rfl rfl ?hb rfl, rfl, ?_⟩; case hb => (first | rfl | assumption | (simp; done)))
      (refine nx (aM (gN rfl) rfl rfl rfl rfl rfl) rfl ?_)
      (refine nx (aM (gd_on rfl rfl rfl rfl (by first | rfl | assumption | (simp; done))) rfl rfl rfl rfl rfl) rfl ?_)
      (refine nx (a_len (gd_on rfl rfl rfl rfl (by first | rfl | assumption | (simp; done))) rfl rfl rfl rfl rfl rfl rfl) rfl ?_)
      (refine nx (a_gtr (gd_on rfl rfl rfl rfl (by first | rfl | assumption | (simp; done))) rfl rfl rfl rfl rfl rfl) rfl ?_)
      (refine nx (aM (gd_on rfl rfl rfl rfl (by first | rfl | assumption | (simp; done))) rfl rfl rfl rfl rfl) rfl ?_)
      (refine nx (aM (gd_on rfl rfl rfl rfl (by first | rfl | assumption | (simp; done))) rfl rfl rfl rfl rfl) rfl ?_)
      (refine nx (a_len (gd_on rfl rfl rfl rfl (by first | rfl | assumption | (simp; done))) rfl rfl rfl rfl rfl rfl rfl) rfl ?_)
      (refine nx (a_gtr (gd_on rfl rfl rfl rfl (by first | rfl | assumption | (simp; done))) rfl rfl rfl rfl rfl rfl) rfl ?_)
      (refine ⟨_, _, _, aPt (gd_on rfl rfl rfl rfl (by first | rfl | assumption | (simp; done))) rfl rfl rfl rfl rfl ?hb rfl, rfl, ?_⟩; case hb => (first | rfl | assumption | (simp; done)))
      (refine ⟨_, _, _, aPf (gN rfl) rfl rfl rfl rfl rfl ?hb rfl, rfl, ?_⟩; case hb => (first | rfl | assumption | (simp; done)))
      (refine nx (aM (gN rfl) rfl rfl rfl rfl rfl) rfl ?_)
      (refine nx (aM (gd_on rfl rfl rfl rfl (by first | rfl | assumption | (simp; done))) rfl rfl rfl rfl rfl) rfl ?_)
      (refine nx (a_len (gd_on rfl rfl rfl rfl (by first | rfl | assumption | (simp; done))) rfl rfl rfl rfl rfl rfl rfl) rfl ?_)
      (refine nx (a_gtr (gd_on rfl rfl rfl rfl (by first | rfl | assumption | (simp; done))) rfl rfl rfl rfl rfl rfl) rfl ?_)
      (refine ⟨_, _, _, aPf (gN rfl) rfl rfl rfl rfl rfl ?hb rfl, rfl, ?_⟩; case hb => (first | rfl | assumption | (simp; done)))
      exact wk_sub ⟨rfl, rfl, rfl, rfl, rfl, rfl, trivial⟩
  refine aC rfl (fun h => by rw [g5] at h; cases h) (fun _ => aK ?_)
  show AWp _ _ _ _ _ _ _
  refine aS (aS (aR ?_))
  (refine nx (aA (gN rfl) rfl rfl rfl rfl rfl) rfl ?_)
  show AWp _ _ _ _ _ _ _
  refine aB (awp_count A.length (fun k => [(5, .val (.lst (c.map Lt.cv))), (7, .val (.lst (A.map clC))), (8, .val (.lst (A'.map clC))), (9, .val (.lst (B.map clC))), (10, .val (.lst (B'.map clC))), (11, .val (.i k))]) (wk_sub ⟨rfl, rfl, rfl, rfl, rfl, rfl, trivial⟩) ?_)
  intro k hk
  refine aS (aS (aR ?_))
  (refine nx (aM (gN rfl) rfl rfl rfl rfl rfl) rfl ?_)
  (refine nx (aM (gN rfl) rfl rfl rfl rfl rfl) rfl ?_)
  (refine nx (a_len (gN rfl) rfl rfl rfl rfl rfl rfl rfl) rfl ?_)
  (refine nx (a_lss (gN rfl) rfl rfl rfl rfl rfl rfl) rfl ?_)
  show AWp _ _ _ _ _ _ _
  refine aC rfl (fun hlt => ?_) (fun hlt => ?_)
  · have hkl : k < A.length := by simpa using hlt
    obtain ⟨d, hd⟩ : ∃ d, A[k]? = some d := ⟨A[k], List.getElem?_eq_getElem hkl⟩
    obtain ⟨e, he⟩ : ∃ e, A'[k]? = some e := ⟨A'[k]'(by omega), List.getElem?_eq_getElem (by omega)⟩
    have hd' := clC_at hd
    have he' := clC_at he
    obtain ⟨hdl, hd5⟩ := fA d (List.mem_of_getElem? hd)
    have he5 := fA' e (List.mem_of_getElem? he)
    have hv := cVnt5_abs w d e hd5 he5
    rw [hVA.2 k d e hd he] at hv
    have hdm : (d.map Lt.cv).length = d.length := List.length_map ..
    have g6 : decide (((d.map Lt.cv).length : Int) ≠ ((c.map Lt.cv).length : Int) - 1) = false := decide_eq_false (by omega)
    refine aK ?_
    show AWp _ _ _ _ _ _ _
    refine aS (aB (aS (aD (by kernel_rfl) (by kernel_rfl) ?_)))
    (refine nx (aM (gN rfl) rfl rfl rfl rfl rfl) rfl ?_)
    (refine nx (aM (gN rfl) rfl rfl rfl rfl rfl) rfl ?_)
    (refine nx (a_index (j := k) (gN rfl) rfl rfl rfl rfl rfl rfl rfl rfl rfl (hd') rfl (hszA)) rfl ?_)
    (refine nx (a_load_ad (gN rfl) rfl rfl rfl rfl rfl rfl rfl rfl rfl) rfl ?_)
    (refine nx (a_len (gN rfl) rfl rfl rfl rfl rfl rfl rfl) rfl ?_)
    (refine nx (aM (gN rfl) rfl rfl rfl rfl rfl) rfl ?_)
    (refine nx (a_len (gN rfl) rfl rfl rfl rfl rfl rfl rfl) rfl ?_)
    (refine nx (a_sub (gN rfl) rfl rfl rfl rfl rfl rfl (by first | omega | (simp only [List.length_map, List.length_append, List.length_cons, List.length_nil] <;> omega) | (simp <;> omega))) rfl ?_)
    (refine nx (a_neq (gN rfl) rfl rfl rfl rfl rfl rfl) rfl ?_)
    (refine nx (aM (gN rfl) rfl rfl rfl rfl rfl) rfl ?_)
    (refine nx (aM (gd_on rfl rfl rfl rfl (by first | rfl | assumption | (simp; done))) rfl rfl rfl rfl rfl) rfl ?_)
    (refine nx (aM (gd_on rfl rfl rfl rfl (by first | rfl | assumption | (simp; done))) rfl rfl rfl rfl rfl) rfl ?_)
    (refine nx (a_index (j := k) (gd_on rfl rfl rfl rfl (by first | rfl | assumption | (simp; done))) rfl rfl rfl rfl rfl rfl rfl rfl rfl (hd') rfl (hszA)) rfl ?_)
    (refine nx (a_load_ad (gd_on rfl rfl rfl rfl (by first | rfl | assumption | (simp; done))) rfl rfl rfl rfl rfl rfl rfl rfl rfl) rfl ?_)
    (refine nx (aM (gd_on rfl rfl rfl rfl (by first | rfl | assumption | (simp; done))) rfl rfl rfl rfl rfl) rfl ?_)
    (refine nx (aM (gd_on rfl rfl rfl rfl (by first | rfl | assumption | (simp; done))) rfl rfl rfl rfl rfl) rfl ?_)
    (refine nx (a_index (j := k) (gd_on rfl rfl rfl rfl (by first | rfl | assumption | (simp; done))) rfl rfl rfl rfl rfl rfl rfl rfl rfl (he') rfl (hszA')) rfl ?_)
    (refine nx (a_load_ad (gd_on rfl rfl rfl rfl (by first | rfl | assumption | (simp; done))) rfl rfl rfl rfl rfl rfl rfl rfl rfl) rfl ?_)
    (refine nx (a_call (gd_on rfl rfl rfl rfl (by first | rfl | assumption | (simp; done))) rfl rfl rfl rfl rfl (hv)) rfl ?_)
    (refine nx (a_not (gd_on rfl rfl rfl rfl (by first | rfl | assumption | (simp; done))) rfl rfl rfl rfl rfl) rfl ?_)
    (refine ⟨_, _, _, aPf (gN rfl) rfl rfl rfl rfl rfl ?hb rfl, rfl, ?_⟩; case hb => (first | rfl | assumption | (simp; done)))
    refine ⟨by kernel_rfl, ?_⟩
    show AWp _ _ _ _ _ _ _
    refine aC rfl (fun h => by cases h) (fun _ => aK ?_)
    show AWp _ _ _ _ _ _ _
    refine aR ?_
    (refine nx (aM (gN rfl) rfl rfl rfl rfl rfl) rfl ?_)
    (refine nx (a_add (gN rfl) rfl rfl rfl rfl rfl rfl (by first | omega | (simp only [List.length_map, List.length_append, List.length_cons, List.length_nil] <;> omega) | (simp <;> omega))) rfl ?_)
    (refine nx (aA (gN rfl) rfl rfl rfl rfl rfl) rfl ?_)
    exact ⟨hkl, wk_sub ⟨rfl, rfl, rfl, rfl, rfl, rfl, trivial⟩⟩
  have hkl : k = A.length := by
    have : ¬ k < A.length := by simpa using hlt
    omega
  refine aE ?_
  show AWp _ _ _ _ _ _ _
  refine aS (aS (aR ?_))
  (refine nx (aA (gN rfl) rfl rfl rfl rfl rfl) rfl ?_)
  show AWp _ _ _ _ _ _ _
  refine aB (awp_count B.length (fun k => [(5, .val (.lst (c.map Lt.cv))), (9, .val (.lst (B.map clC))), (10, .val (.lst (B'.map clC))), (12, .val (.i k))]) (wk_sub ⟨rfl, rfl, rfl, rfl, trivial⟩) ?_)
  intro k hk
  refine aS (aS (aR ?_))
  (refine nx (aM (gN rfl) rfl rfl rfl rfl rfl) rfl ?_)
  (refine nx (aM (gN rfl) rfl rfl rfl rfl rfl) rfl ?_)
  (refine nx (a_len (gN rfl) rfl rfl rfl rfl rfl rfl rfl) rfl ?_)
  (refine nx (a_lss (gN rfl) rfl rfl rfl rfl rfl rfl) rfl ?_)
  show AWp _ _ _ _ _ _ _
  refine aC rfl (fun hlt => ?_) (fun hlt => ?_)
  · have hkl : k < B.length := by simpa using hlt
    obtain ⟨d, hd⟩ : ∃ d, B[k]? = some d := ⟨B[k], List.getElem?_eq_getElem hkl⟩
    obtain ⟨e, he⟩ : ∃ e, B'[k]? = some e := ⟨B'[k]'(by omega), List.getElem?_eq_getElem (by omega)⟩
    have hd' := clC_at hd
    have he' := clC_at he
    obtain ⟨hdl, hd5, x, hx, hxn⟩ := fB d (List.mem_of_getElem? hd)
    have he5 := fB' e (List.mem_of_getElem? he)
    have hv := cVnt5_abs w d e hd5 he5
    rw [hVB.2 k d e hd he] at hv
    have hx' := Lt.map_at hx
    have hszD := Lt.size_all d
    have hlt' := (List.getElem?_eq_some_iff.1 hx).1
    have hdm : (d.map Lt.cv).length = d.length := List.length_map ..
    have g6 : decide (((d.map Lt.cv).length : Int) ≠ ((c.map Lt.cv).length : Int)) = false := decide_eq_false (by omega)
    refine aK ?_
    show AWp _ _ _ _ _ _ _
    refine aS (aB (aS (aD (by kernel_rfl) (by kernel_rfl) ?_)))
    (refine nx (aM (gN rfl) rfl rfl rfl rfl rfl) rfl ?_)
    (refine nx (aM (gN rfl) rfl rfl rfl rfl rfl) rfl ?_)
    (refine nx (a_index (j := k) (gN rfl) rfl rfl rfl rfl rfl rfl rfl rfl rfl (hd') rfl (hszB)) rfl ?_)
    (refine nx (a_load_ad (gN rfl) rfl rfl rfl rfl rfl rfl rfl rfl rfl) rfl ?_)
    (refine nx (a_len (gN rfl) rfl rfl rfl rfl rfl rfl rfl) rfl ?_)
    (refine nx (aM (gN rfl) rfl rfl rfl rfl rfl) rfl ?_)
    (refine nx (a_len (gN rfl) rfl rfl rfl rfl rfl rfl rfl) rfl ?_)
    (refine nx (a_neq (gN rfl) rfl rfl rfl rfl rfl rfl) rfl ?_)
    (refine nx (aM (gN rfl) rfl rfl rfl rfl rfl) rfl ?_)
    (refine nx (aM (gd_on rfl rfl rfl rfl (by first | rfl | assumption | (simp; done))) rfl rfl rfl rfl rfl) rfl ?_)
    (refine nx (aM (gd_on rfl rfl rfl rfl (by first | rfl | assumption | (simp; done))) rfl rfl rfl rfl rfl) rfl ?_)
    (refine nx (a_index (j := k) (gd_on rfl rfl rfl rfl (by first | rfl | assumption | (simp; done))) rfl rfl rfl rfl rfl rfl rfl rfl rfl (hd') rfl (hszB)) rfl ?_)
    (refine nx (a_load_ad (gd_on rfl rfl rfl rfl (by first | rfl | assumption | (simp; done))) rfl rfl rfl rfl rfl rfl rfl rfl rfl) rfl ?_)
    (refine nx (aM (gd_on rfl rfl rfl rfl (by first | rfl | assumption | (simp; done))) rfl rfl rfl rfl rfl) rfl ?_)
    (refine nx (aM (gd_on rfl rfl rfl rfl (by first | rfl | assumption | (simp; done))) rfl rfl rfl rfl rfl) rfl ?_)
    (refine nx (a_index (j := k) (gd_on rfl rfl rfl rfl (by first | rfl | assumption | (simp; done))) rfl rfl rfl rfl rfl rfl rfl rfl rfl (he') rfl (hszB')) rfl ?_)
    (refine nx (a_load_ad (gd_on rfl rfl rfl rfl (by first | rfl | assumption | (simp; done))) rfl rfl rfl rfl rfl rfl rfl rfl rfl) rfl ?_)
    (refine nx (a_call (gd_on rfl rfl rfl rfl (by first | rfl | assumption | (simp; done))) rfl rfl rfl rfl rfl (hv)) rfl ?_)
    (refine nx (a_not (gd_on rfl rfl rfl rfl (by first | rfl | assumption | (simp; done))) rfl rfl rfl rfl rfl) rfl ?_)
    (refine ⟨_, _, _, aPf (gN rfl) rfl rfl rfl rfl rfl ?hb rfl, rfl, ?_⟩; case hb => (first | rfl | assumption | (simp; done)))
    (refine nx (aM (gN rfl) rfl rfl rfl rfl rfl) rfl ?_)
    (refine nx (aM (gd_on rfl rfl rfl rfl (by first | rfl | assumption | (simp; done))) rfl rfl rfl rfl rfl) rfl ?_)
    (refine nx (aM (gd_on rfl rfl rfl rfl (by first | rfl | assumption | (simp; done))) rfl rfl rfl rfl rfl) rfl ?_)
    (refine nx (a_index (j := k) (gd_on rfl rfl rfl rfl (by first | rfl | assumption | (simp; done))) rfl rfl rfl rfl rfl rfl rfl rfl rfl (hd') rfl (hszB)) rfl ?_)
    (refine nx (a_load_ad (gd_on rfl rfl rfl rfl (by first | rfl | assumption | (simp; done))) rfl rfl rfl rfl rfl rfl rfl rfl rfl) rfl ?_)
    (refine nx (aM (gd_on rfl rfl rfl rfl (by first | rfl | assumption | (simp; done))) rfl rfl rfl rfl rfl) rfl ?_)
    (refine nx (a_len (gd_on rfl rfl rfl rfl (by first | rfl | assumption | (simp; done))) rfl rfl rfl rfl rfl rfl rfl) rfl ?_)
    (refine nx (a_sub (gd_on rfl rfl rfl rfl (by first | rfl | assumption | (simp; done))) rfl rfl rfl rfl rfl rfl (by first | omega | (simp only [List.length_map, List.length_append, List.length_cons, List.length_nil] <;> omega) | (simp <;> omega))) rfl ?_)
    (refine nx (a_index (j := (c.length - 1)) (gd_on rfl rfl rfl rfl (by first | rfl | assumption | (simp; done))) rfl rfl rfl rfl rfl rfl rfl rfl (by first | assumption | exact (by first | rfl | omega | (simp only [List.length_set, List.length_map, List.length_append, List.length_cons, List.length_nil] <;> omega) | (simp <;> omega))) (hx') rfl (hszD)) rfl ?_)
    (refine nx (a_field_ad (gd_on rfl rfl rfl rfl (by first | rfl | assumption | (simp; done))) rfl rfl rfl rfl rfl rfl rfl rfl rfl rfl rfl) rfl ?_)
    (refine nx (a_load_ad (gd_on rfl rfl rfl rfl (by first | rfl | assumption | (simp; done))) rfl rfl rfl rfl rfl rfl rfl rfl rfl) rfl ?_)
    (refine nx (a_not (gd_on rfl rfl rfl rfl (by first | rfl | assumption | (simp; done))) rfl rfl rfl rfl rfl) rfl ?_)
    (refine ⟨_, _, _, aPf (gN rfl) rfl rfl rfl rfl rfl ?hb rfl, rfl, ?_⟩; case hb => (first | rfl | assumption | (simp; done)))
    refine ⟨by kernel_rfl, ?_⟩
    show AWp _ _ _ _ _ _ _
    refine aC rfl (fun h => ?_) (fun _ => aK ?_)
    · have h : (!x.neg) = true := h
      rw [hxn] at h; cases h
    show AWp _ _ _ _ _ _ _
    refine aR ?_
    (refine nx (aM (gN rfl) rfl rfl rfl rfl rfl) rfl ?_)
    (refine nx (a_add (gN rfl) rfl rfl rfl rfl rfl rfl (by first | omega | (simp only [List.length_map, List.length_append, List.length_cons, List.length_nil] <;> omega) | (simp <;> omega))) rfl ?_)
    (refine nx (aA (gN rfl) rfl rfl rfl rfl rfl) rfl ?_)
    exact ⟨hkl, wk_sub ⟨rfl, rfl, rfl, rfl, trivial⟩⟩
  have hkl : k = B.length := by
    have : ¬ k < B.length := by simpa using hlt
    omega
  refine aE ?_
  show AWp _ _ _ _ _ _ _
  refine aS (aR ?_)
  (refine nx (a_call (gN rfl) rfl rfl rfl rfl rfl (z1)) rfl ?_)
  (refine nx (a_len (gN rfl) rfl rfl rfl rfl rfl rfl rfl) rfl ?_)
  (refine nx (a_call (gN rfl) rfl rfl rfl rfl rfl (z2)) rfl ?_)
  (refine nx (a_len (gN rfl) rfl rfl rfl rfl rfl rfl rfl) rfl ?_)
  (refine nx (a_add (gN rfl) rfl rfl rfl rfl rfl rfl (by first | omega | (simp only [List.length_map, List.length_append, List.length_cons, List.length_nil] <;> omega) | (simp <;> omega))) rfl ?_)
  (refine nx (a_eql (gN rfl) rfl rfl rfl rfl rfl rfl) rfl ?_)
  (refine nx (aA (gN rfl) rfl rfl rfl rfl rfl) rfl ?_)
  show AWp _ _ _ _ _ _ _
  exact aT (And.intro (.inr rfl) rfl)
theorem shp_bool {n : Nat} {c : CV} (h : Shp Tryz.prog n 4 c) : ∃ b, c = .b b := by
  cases n with
  | zero => exact h.elim
  | succ n =>
    rw [Shp, Tryz.underlying4] at h
    exact h
theorem shp_lits {n : Nat} {c : CV} (h : Shp Tryz.prog n 22 c) : ∃ l : List Lt, c = .lst (l.map Lt.cv) ∧ okC l := by
  cases n with
  | zero => exact h.elim
  | succ n =>
    rw [Shp, Tryz.underlying22] at h
    obtain ⟨l, rfl, hl⟩ := h
    obtain ⟨m, h1, h2⟩ := list_of Lt.cv (fun l => l.a.rng ∧ l.b.rng) (l := l) (fun x hx => by
      have hx := hl x hx
      cases n with
      | zero => exact hx.elim
      | succ n =>
        have hx : Shp Tryz.prog (n + 1) 53 x := hx
        rw [Shp, Tryz.underlying53] at hx
        obtain ⟨l, rfl, hl, hf⟩ := hx
        match l, hl with
        | [x, y, z], _ =>
          obtain ⟨b, rfl⟩ := shp_bool (hf 0 _ x rfl rfl)
          obtain ⟨t, rfl, ht⟩ := shp_tm n (hf 1 _ y rfl rfl)
          obtain ⟨u, rfl, hu⟩ := shp_tm n (hf 2 _ z rfl rfl)
          exact ⟨⟨b, t, u⟩, rfl, ht, hu⟩)
    exact ⟨m, by rw [h1], h2⟩
end Go.Proofs.YtglmoficcjphaaaGreat

