/-
  The law ClauseSame.
-/
import Derived.Test.YtmeegdomncadpaaGreatMg6
import Derived.Test.YtmeegdomncadpaaGreatAbShp
namespace Go.Proofs.YtmeegdomncadpaaGreat
open Go.RowKit
set_option linter.unusedVariables false
set_option linter.unusedSimpArgs false
set_option maxRecDepth 100000

-- 
set_option maxHeartbeats 8000000 in
theorem clauseSame_abs (W : World) (a b : List Lt) (y : Int) (ha : okC a) (hb : okC b) (hy : 0 ≤ y ∧ y ≤ 255) : AFun Tryz.prog W 4 [.lst (a.map Lt.cv), .lst (b.map Lt.cv), .sc (.int .u8 y)] (.val (.b true)) := by
  refine afun_of (rs := [.b true]) Tryz.func4 Tryz.ntmps4 rfl rfl rfl rfl ?_
  intro w U hW
  refine aS (aR ?_)
  (refine nx (aA (gN rfl) rfl rfl rfl rfl rfl) rfl ?_)
  show AWp _ _ _ _ _ _ _
  refine aS (aS (aR ?_))
  (refine nx (a_call (gN rfl) rfl rfl rfl rfl rfl (alive11_abs w)) rfl ?_)
  (refine nx (a_not (gN rfl) rfl rfl rfl rfl rfl) rfl ?_)
  show AWp _ _ _ _ _ _ _
  refine aC rfl (fun hc => by cases hc) (fun _ => aK ?_)
  show AWp _ _ _ _ _ _ _
  have f1 := fine11_abs w a 6 12 (by decide) (by decide) (by decide) ha
  have f2 := fine11_abs w b 6 12 (by decide) (by decide) (by decide) hb
  cases hF : fineC a 6 12 with
  | false =>
    rw [hF] at f1
    refine aS (aS (aR ?_))
    (refine nx (aM (gN rfl) rfl rfl rfl rfl rfl) rfl ?_)
    (refine nx (a_call (gN rfl) rfl rfl rfl rfl rfl (f1)) rfl ?_)
    (refine nx (a_not (gN rfl) rfl rfl rfl rfl rfl) rfl ?_)
    (refine nx (aM (gN rfl) rfl rfl rfl rfl rfl) rfl ?_)
    (refine ⟨_, _, _, a_off (go_off rfl rfl rfl rfl (by first | rfl | assumption | (simp; done) | (simp [*]; done))) rfl rfl rfl, rfl, ?_⟩)
    (refine ⟨_, _, _, a_off (go_off rfl rfl rfl rfl (by first | rfl | assumption | (simp; done) | (simp [*]; done))) rfl rfl rfl, rfl, ?_⟩)
    (refine ⟨_, _, _, a_off (go_off rfl rfl rfl rfl (by first | rfl | assumption | (simp; done) | (simp [*]; done))) rfl rfl rfl, rfl, ?_⟩)
    (refine ⟨_, _, _, aPt (gN rfl) rfl rfl rfl rfl rfl ?hb rfl, rfl, ?_⟩; case hb => (first | rfl | assumption | (simp; done)))
    show AWp _ _ _ _ _ _ _
    refine aC rfl (fun hc => ?_) (fun hc => by cases hc)
    refine aS (aR ?_)
    (refine nx (aA (gN rfl) rfl rfl rfl rfl rfl) rfl ?_)
    show AWp _ _ _ _ _ _ _
    exact aT (And.intro (.inr rfl) rfl)
  | true =>
  rw [hF] at f1
  cases hG : fineC b 6 12 with
  | false =>
    rw [hG] at f2
    refine aS (aS (aR ?_))
    (refine nx (aM (gN rfl) rfl rfl rfl rfl rfl) rfl ?_)
    (refine nx (a_call (gN rfl) rfl rfl rfl rfl rfl (f1)) rfl ?_)
    (refine nx (a_not (gN rfl) rfl rfl rfl rfl rfl) rfl ?_)
    (refine nx (aM (gN rfl) rfl rfl rfl rfl rfl) rfl ?_)
    (refine nx (aM (gd_on rfl rfl rfl rfl (by first | rfl | assumption | (simp; done))) rfl rfl rfl rfl rfl) rfl ?_)
    (refine nx (a_call (gd_on rfl rfl rfl rfl (by first | rfl | assumption | (simp; done))) rfl rfl rfl rfl rfl (f2)) rfl ?_)
    (refine nx (a_not (gd_on rfl rfl rfl rfl (by first | rfl | assumption | (simp; done))) rfl rfl rfl rfl rfl) rfl ?_)
    (refine ⟨_, _, _, aPf (gN rfl) rfl rfl rfl rfl rfl ?hb rfl, rfl, ?_⟩; case hb => (first | rfl | assumption | (simp; done)))
    show AWp _ _ _ _ _ _ _
    refine aC rfl (fun hc => ?_) (fun hc => by cases hc)
    refine aS (aR ?_)
    (refine nx (aA (gN rfl) rfl rfl rfl rfl rfl) rfl ?_)
    show AWp _ _ _ _ _ _ _
    exact aT (And.intro (.inr rfl) rfl)
  | true =>
  rw [hG] at f2
  refine aS (aS (aR ?_))
  (refine nx (aM (gN rfl) rfl rfl rfl rfl rfl) rfl ?_)
  (refine nx (a_call (gN rfl) rfl rfl rfl rfl rfl (f1)) rfl ?_)
  (refine nx (a_not (gN rfl) rfl rfl rfl rfl rfl) rfl ?_)
  (refine nx (aM (gN rfl) rfl rfl rfl rfl rfl) rfl ?_)
  (refine nx (aM (gd_on rfl rfl rfl rfl (by first | rfl | assumption | (simp; done))) rfl rfl rfl rfl rfl) rfl ?_)
  (refine nx (a_call (gd_on rfl rfl rfl rfl (by first | rfl | assumption | (simp; done))) rfl rfl rfl rfl rfl (f2)) rfl ?_)
  (refine nx (a_not (gd_on rfl rfl rfl rfl (by first | rfl | assumption | (simp; done))) rfl rfl rfl rfl rfl) rfl ?_)
  (refine ⟨_, _, _, aPf (gN rfl) rfl rfl rfl rfl rfl ?hb rfl, rfl, ?_⟩; case hb => (first | rfl | assumption | (simp; done)))
  show AWp _ _ _ _ _ _ _
  refine aC rfl (fun hc => by cases hc) (fun hc => aK ?_)
  show AWp _ _ _ _ _ _ _
  clear f1 f2 hc
  obtain ⟨ka, sa, za⟩ := fine_okCl (by decide) (by decide) (by decide) hF
  obtain ⟨kb, sb, zb⟩ := fine_okCl (by decide) (by decide) (by decide) hG
  have la := (fineC_facts (by decide) (by decide) hF).1
  have lb := (fineC_facts (by decide) (by decide) hG).1
  have wa := whl_size (c := a) (B := 12) fun l hl => by have := za l hl; omega
  have wb := whl_size (c := b) (B := 12) fun l hl => by have := zb l hl; omega
  have wa2 : (whlT a).size ≤ 1000 := by omega
  have wb2 : (whlT b).size ≤ 1000 := by omega
  refine aS (aR ?_)
  (refine nx (aM (gN rfl) rfl rfl rfl rfl rfl) rfl ?_)
  (refine nx (a_call (gN rfl) rfl rfl rfl rfl rfl (of11_abs w a (by omega) ka.ok)) rfl ?_)
  (refine nx (aM (gN rfl) rfl rfl rfl rfl rfl) rfl ?_)
  (refine nx (a_call (gN rfl) rfl rfl rfl rfl rfl (of11_abs w b (by omega) kb.ok)) rfl ?_)
  (refine nx (aA (gN rfl) rfl rfl rfl rfl rfl) rfl ?_)
  (refine nx (aA (gN rfl) rfl rfl rfl rfl rfl) rfl ?_)
  show AWp _ _ _ _ _ _ _
  have hsm := refSame_abs w (appR (zipB (whlT a).nv (nums (whlT a).nv.length)) (whlT a)) (appR (zipB (whlT b).nv (nums (whlT b).nv.length)) (whlT b)) (appR_ok (whl_rng ka).2.1 zip_ok) (appR_ok (whl_rng kb).2.1 zip_ok)
  have hcan : sameT (appR (zipB (whlT a).nv (nums (whlT a).nv.length)) (whlT a)) (appR (zipB (whlT b).nv (nums (whlT b).nv.length)) (whlT b)) = vntC a b := by
    rw [← vnt_doc, Bool.eq_iff_iff, sameT_iff, sameT_iff, whl_canon, whl_canon]
  rw [hcan] at hsm
  refine aS (aR ?_)
  (refine nx (aM (gN rfl) rfl rfl rfl rfl rfl) rfl ?_)
  (refine nx (a_call (gN rfl) rfl rfl rfl rfl rfl (whole_abs w a (by omega))) rfl ?_)
  (refine nx (a_call (gN rfl) rfl rfl rfl rfl rfl (canon_abs w (whlT a) (whl_rng ka).1 (whl_rng ka).2.1 wa2)) rfl ?_)
  (refine nx (aM (gN rfl) rfl rfl rfl rfl rfl) rfl ?_)
  (refine nx (a_call (gN rfl) rfl rfl rfl rfl rfl (whole_abs w b (by omega))) rfl ?_)
  (refine nx (a_call (gN rfl) rfl rfl rfl rfl rfl (canon_abs w (whlT b) (whl_rng kb).1 (whl_rng kb).2.1 wb2)) rfl ?_)
  (refine nx (a_call (gN rfl) rfl rfl rfl rfl rfl (hsm)) rfl ?_)
  (refine nx (aA (gN rfl) rfl rfl rfl rfl rfl) rfl ?_)
  show AWp _ _ _ _ _ _ _
  have g1 : (sameC a b == sameC a b) = true := by simp
  have g2 : (vntC a b == vntC a b) = true := by simp
  have hmx : max y 0 = y := by omega
  have hre := cRename_abs w a y (by omega) ka.sid.1 ka.sid.2.1
  rw [hmx] at hre
  have kr : okCl (a.map (Lt.rep fun v => varT (upV y v))) := ka.repG (up_img hy.1).1 (up_img hy.1).2
  have hv2 := cVnt_abs w a _ ka kr
  rw [vnt_up sa hy] at hv2
  have hs2 := cSame_abs w a a (by omega) ka.rng ka.rng
  rw [sameC_iff.2 rfl] at hs2
  refine aS (aR ?_)
  (refine nx (aM (gN rfl) rfl rfl rfl rfl rfl) rfl ?_)
  (refine nx (aM (gN rfl) rfl rfl rfl rfl rfl) rfl ?_)
  (refine nx (a_call (gN rfl) rfl rfl rfl rfl rfl (cSame_abs w a b (by omega) ka.rng kb.rng)) rfl ?_)
  (refine nx (aM (gN rfl) rfl rfl rfl rfl rfl) rfl ?_)
  (refine nx (aM (gN rfl) rfl rfl rfl rfl rfl) rfl ?_)
  (refine nx (a_call (gN rfl) rfl rfl rfl rfl rfl (same11_abs w a b (by omega) ka.ok kb.ok)) rfl ?_)
  (refine nx (a_beq (gN rfl) rfl rfl rfl rfl rfl rfl rfl) rfl ?_)
  (refine nx (aM (gN rfl) rfl rfl rfl rfl rfl) rfl ?_)
  (refine nx (aM (gd_on rfl rfl rfl rfl (by first | rfl | assumption | (simp; done))) rfl rfl rfl rfl rfl) rfl ?_)
  (refine nx (aM (gd_on rfl rfl rfl rfl (by first | rfl | assumption | (simp; done))) rfl rfl rfl rfl rfl) rfl ?_)
  (refine nx (a_call (gd_on rfl rfl rfl rfl (by first | rfl | assumption | (simp; done))) rfl rfl rfl rfl rfl (cVnt_abs w a b ka kb)) rfl ?_)
  (refine nx (aM (gd_on rfl rfl rfl rfl (by first | rfl | assumption | (simp; done))) rfl rfl rfl rfl rfl) rfl ?_)
  (refine nx (a_beq (gd_on rfl rfl rfl rfl (by first | rfl | assumption | (simp; done))) rfl rfl rfl rfl rfl rfl rfl) rfl ?_)
  (refine ⟨_, _, _, aPt (gN rfl) rfl rfl rfl rfl rfl ?hb rfl, rfl, ?_⟩; case hb => (first | rfl | assumption | (simp; done)))
  (refine nx (aM (gN rfl) rfl rfl rfl rfl rfl) rfl ?_)
  (refine nx (aM (gd_on rfl rfl rfl rfl (by first | rfl | assumption | (simp; done))) rfl rfl rfl rfl rfl) rfl ?_)
  (refine nx (aM (gd_on rfl rfl rfl rfl (by first | rfl | assumption | (simp; done))) rfl rfl rfl rfl rfl) rfl ?_)
  (refine nx (aM (gd_on rfl rfl rfl rfl (by first | rfl | assumption | (simp; done))) rfl rfl rfl rfl rfl) rfl ?_)
  (refine nx (a_conv (gd_on rfl rfl rfl rfl (by first | rfl | assumption | (simp; done))) rfl rfl rfl rfl rfl rfl rfl (by first | rfl | (rw [IntKind.wrap_i64]; omega) | assumption)) rfl ?_)
  (refine nx (a_call (gd_on rfl rfl rfl rfl (by first | rfl | assumption | (simp; done))) rfl rfl rfl rfl rfl (hre)) rfl ?_)
  (refine nx (a_call (gd_on rfl rfl rfl rfl (by first | rfl | assumption | (simp; done))) rfl rfl rfl rfl rfl (hv2)) rfl ?_)
  (refine ⟨_, _, _, aPt (gN rfl) rfl rfl rfl rfl rfl ?hb rfl, rfl, ?_⟩; case hb => (first | rfl | assumption | (simp; done)))
  (refine nx (aM (gN rfl) rfl rfl rfl rfl rfl) rfl ?_)
  (refine nx (aM (gd_on rfl rfl rfl rfl (by first | rfl | assumption | (simp; done))) rfl rfl rfl rfl rfl) rfl ?_)
  (refine nx (aM (gd_on rfl rfl rfl rfl (by first | rfl | assumption | (simp; done))) rfl rfl rfl rfl rfl) rfl ?_)
  (refine nx (a_call (gd_on rfl rfl rfl rfl (by first | rfl | assumption | (simp; done))) rfl rfl rfl rfl rfl (hs2)) rfl ?_)
  (refine ⟨_, _, _, aPt (gN rfl) rfl rfl rfl rfl rfl ?hb rfl, rfl, ?_⟩; case hb => (first | rfl | assumption | (simp; done)))
  (refine nx (aA (gN rfl) rfl rfl rfl rfl rfl) rfl ?_)
  show AWp _ _ _ _ _ _ _
  exact aT (And.intro (.inr rfl) rfl)
theorem shp_bool {n : Nat} {c : CV} (h : Shp Tryz.prog n 4 c) : ∃ b, c = .b b := by
  cases n with
  | zero => exact h.elim
  | succ n =>
    rw [Shp, Tryz.underlying4] at h
    exact h
theorem shp_lits {n : Nat} {c : CV} (h : Shp Tryz.prog n 22 c) : ∃ l : List Lt, c = .lst (l.map Lt.cv) ∧ okC l := by
  cases n with
  | zero => exact h.elim
  | succ n =>
    rw [Shp, Tryz.underlying22] at h
    obtain ⟨l, rfl, hl⟩ := h
    obtain ⟨m, h1, h2⟩ := list_of Lt.cv (fun l => l.a.rng ∧ l.b.rng) (l := l) (fun x hx => by
      have hx := hl x hx
      cases n with
      | zero => exact hx.elim
      | succ n =>
        have hx : Shp Tryz.prog (n + 1) 35 x := hx
        rw [Shp, Tryz.underlying35] at hx
        obtain ⟨l, rfl, hl, hf⟩ := hx
        match l, hl with
        | [x, y, z], _ =>
          obtain ⟨b, rfl⟩ := shp_bool (hf 0 _ x rfl rfl)
          obtain ⟨t, rfl, ht⟩ := shp_tm n (hf 1 _ y rfl rfl)
          obtain ⟨u, rfl, hu⟩ := shp_tm n (hf 2 _ z rfl rfl)
          exact ⟨⟨b, t, u⟩, rfl, ht, hu⟩)
    exact ⟨m, by rw [h1], h2⟩
end Go.Proofs.YtmeegdomncadpaaGreat

