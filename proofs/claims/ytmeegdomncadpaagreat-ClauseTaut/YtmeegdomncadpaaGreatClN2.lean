/-
  The law ClauseTaut.
-/
import Derived.Test.YtmeegdomncadpaaGreatMg6
import Derived.Test.YtmeegdomncadpaaGreatAbShp
namespace Go.Proofs.YtmeegdomncadpaaGreat
open Go.RowKit
set_option linter.unusedVariables false
set_option linter.unusedSimpArgs false
set_option maxRecDepth 100000

theorem taut_same {c : List Lt} {l : Lt} (h : l ∈ c) : tautP (c ++ [Lt.mk (!l.neg) l.a l.b]) = true ∧ tautP (c ++ [Lt.mk (!l.neg) l.b l.a]) = true ∧ tautP (c ++ [Lt.mk false l.a l.a]) = true := by
  refine ⟨(taut_iff _).2 (.inr ⟨l, List.mem_append_left _ h, _, List.mem_append_right _ (List.mem_singleton.2 rfl), ?_, .inl ⟨rfl, rfl⟩⟩), (taut_iff _).2 (.inr ⟨l, List.mem_append_left _ h, _, List.mem_append_right _ (List.mem_singleton.2 rfl), ?_, .inr ⟨rfl, rfl⟩⟩), (taut_iff _).2 (.inl ⟨_, List.mem_append_right _ (List.mem_singleton.2 rfl), rfl, rfl⟩)⟩
  · cases l.neg <;> simp
  · cases l.neg <;> simp
theorem okC_snoc {c : List Lt} {l : Lt} (h : okC c) (hl : l.a.rng ∧ l.b.rng) : okC (c ++ [l]) := fun x hx => by
  rcases List.mem_append.1 hx with hx | hx
  · exact h x hx
  · rw [List.mem_singleton.1 hx]; exact hl
-- 
set_option maxHeartbeats 16000000 in
theorem clauseTaut_abs (W : World) (c d : List Lt) (s : List Bd) (y : Int) (hc : okC c) (hd : okC d) (hs : ∀ b ∈ s, b.t.rng) (hsl : s.length ≤ 9223372036854775807) (hy : 0 ≤ y ∧ y ≤ 255) : AFun Tryz.prog W 5 [.lst (c.map Lt.cv), .lst (d.map Lt.cv), .lst (s.map Bd.cv), .sc (.int .u8 y)] (.val (.b true)) := by
  refine afun_of (rs := [.b true]) Tryz.func5 Tryz.ntmps5 rfl rfl rfl rfl ?_
  intro w U hW
  refine aS (aR ?_)
  (refine nx (aA (gN rfl) rfl rfl rfl rfl rfl) rfl ?_)
  show AWp _ _ _ _ _ _ _
  refine aS (aS (aR ?_))
  (refine nx (a_call (gN rfl) rfl rfl rfl rfl rfl (alive11_abs w)) rfl ?_)
  (refine nx (a_not (gN rfl) rfl rfl rfl rfl rfl) rfl ?_)
  show AWp _ _ _ _ _ _ _
  refine aC rfl (fun hc => by cases hc) (fun _ => aK ?_)
  show AWp _ _ _ _ _ _ _
  have f1 := fine11_abs w c 4 10 (by decide) (by decide) (by decide) hc
  have f2 := fine11_abs w d 4 10 (by decide) (by decide) (by decide) hd
  have f3 := fine7_abs w s hsl hs
  cases hF : fineC c 4 10 with
  | false =>
    rw [hF] at f1
    refine aS (aS (aR ?_))
    (refine nx (aM (gN rfl) rfl rfl rfl rfl rfl) rfl ?_)
    (refine nx (a_call (gN rfl) rfl rfl rfl rfl rfl (f1)) rfl ?_)
    (refine nx (a_not (gN rfl) rfl rfl rfl rfl rfl) rfl ?_)
    (refine nx (aM (gN rfl) rfl rfl rfl rfl rfl) rfl ?_)
    (refine ⟨_, _, _, a_off (go_off rfl rfl rfl rfl (by first | rfl | assumption | (simp; done) | (simp [*]; done))) rfl rfl rfl, rfl, ?_⟩)
    (refine ⟨_, _, _, a_off (go_off rfl rfl rfl rfl (by first | rfl | assumption | (simp; done) | (simp [*]; done))) rfl rfl rfl, rfl, ?_⟩)
    (refine ⟨_, _, _, a_off (go_off rfl rfl rfl rfl (by first | rfl | assumption | (simp; done) | (simp [*]; done))) rfl rfl rfl, rfl, ?_⟩)
    (refine ⟨_, _, _, aPt (gN rfl) rfl rfl rfl rfl rfl ?hb rfl, rfl, ?_⟩; case hb => (first | rfl | assumption | (simp; done)))
    (refine nx (aM (gN rfl) rfl rfl rfl rfl rfl) rfl ?_)
    (refine ⟨_, _, _, a_off (go_off rfl rfl rfl rfl (by first | rfl | assumption | (simp; done) | (simp [*]; done))) rfl rfl rfl, rfl, ?_⟩)
    (refine ⟨_, _, _, a_off (go_off rfl rfl rfl rfl (by first | rfl | assumption | (simp; done) | (simp [*]; done))) rfl rfl rfl, rfl, ?_⟩)
    (refine ⟨_, _, _, a_off (go_off rfl rfl rfl rfl (by first | rfl | assumption | (simp; done) | (simp [*]; done))) rfl rfl rfl, rfl, ?_⟩)
    (refine ⟨_, _, _, aPt (gN rfl) rfl rfl rfl rfl rfl ?hb rfl, rfl, ?_⟩; case hb => (first | rfl | assumption | (simp; done)))
    (refine nx (aM (gN rfl) rfl rfl rfl rfl rfl) rfl ?_)
    (refine ⟨_, _, _, a_off (go_off rfl rfl rfl rfl (by first | rfl | assumption | (simp; done) | (simp [*]; done))) rfl rfl rfl, rfl, ?_⟩)
    (refine ⟨_, _, _, a_off (go_off rfl rfl rfl rfl (by first | rfl | assumption | (simp; done) | (simp [*]; done))) rfl rfl rfl, rfl, ?_⟩)
    (refine ⟨_, _, _, a_off (go_off rfl rfl rfl rfl (by first | rfl | assumption | (simp; done) | (simp [*]; done))) rfl rfl rfl, rfl, ?_⟩)
    (refine ⟨_, _, _, aPt (gN rfl) rfl rfl rfl rfl rfl ?hb rfl, rfl, ?_⟩; case hb => (first | rfl | assumption | (simp; done)))
    show AWp _ _ _ _ _ _ _
    refine aC rfl (fun hc => ?_) (fun hc => by cases hc)
    refine aS (aR ?_)
    (refine nx (aA (gN rfl) rfl rfl rfl rfl rfl) rfl ?_)
    show AWp _ _ _ _ _ _ _
    exact aT (And.intro (.inr rfl) rfl)
  | true =>
  rw [hF] at f1
  cases hG : fineC d 4 10 with
  | false =>
    rw [hG] at f2
    refine aS (aS (aR ?_))
    (refine nx (aM (gN rfl) rfl rfl rfl rfl rfl) rfl ?_)
    (refine nx (a_call (gN rfl) rfl rfl rfl rfl rfl (f1)) rfl ?_)
    (refine nx (a_not (gN rfl) rfl rfl rfl rfl rfl) rfl ?_)
    (refine nx (aM (gN rfl) rfl rfl rfl rfl rfl) rfl ?_)
    (refine nx (aM (gd_on rfl rfl rfl rfl (by first | rfl | assumption | (simp; done))) rfl rfl rfl rfl rfl) rfl ?_)
    (refine nx (a_call (gd_on rfl rfl rfl rfl (by first | rfl | assumption | (simp; done))) rfl rfl rfl rfl rfl (f2)) rfl ?_)
    (refine nx (a_not (gd_on rfl rfl rfl rfl (by first | rfl | assumption | (simp; done))) rfl rfl rfl rfl rfl) rfl ?_)
    (refine ⟨_, _, _, aPf (gN rfl) rfl rfl rfl rfl rfl ?hb rfl, rfl, ?_⟩; case hb => (first | rfl | assumption | (simp; done)))
    (refine nx (aM (gN rfl) rfl rfl rfl rfl rfl) rfl ?_)
    (refine ⟨_, _, _, a_off (go_off rfl rfl rfl rfl (by first | rfl | assumption | (simp; done) | (simp [*]; done))) rfl rfl rfl, rfl, ?_⟩)
    (refine ⟨_, _, _, a_off (go_off rfl rfl rfl rfl (by first | rfl | assumption | (simp; done) | (simp [*]; done))) rfl rfl rfl, rfl, ?_⟩)
    (refine ⟨_, _, _, a_off (go_off rfl rfl rfl rfl (by first | rfl | assumption | (simp; done) | (simp [*]; done))) rfl rfl rfl, rfl, ?_⟩)
    (refine ⟨_, _, _, aPt (gN rfl) rfl rfl rfl rfl rfl ?hb rfl, rfl, ?_⟩; case hb => (first | rfl | assumption | (simp; done)))
    (refine nx (aM (gN rfl) rfl rfl rfl rfl rfl) rfl ?_)
    (refine ⟨_, _, _, a_off (go_off rfl rfl rfl rfl (by first | rfl | assumption | (simp; done) | (simp [*]; done))) rfl rfl rfl, rfl, ?_⟩)
    (refine ⟨_, _, _, a_off (go_off rfl rfl rfl rfl (by first | rfl | assumption | (simp; done) | (simp [*]; done))) rfl rfl rfl, rfl, ?_⟩)
    (refine ⟨_, _, _, a_off (go_off rfl rfl rfl rfl (by first | rfl | assumption | (simp; done) | (simp [*]; done))) rfl rfl rfl, rfl, ?_⟩)
    (refine ⟨_, _, _, aPt (gN rfl) rfl rfl rfl rfl rfl ?hb rfl, rfl, ?_⟩; case hb => (first | rfl | assumption | (simp; done)))
    show AWp _ _ _ _ _ _ _
    refine aC rfl (fun hc => ?_) (fun hc => by cases hc)
    refine aS (aR ?_)
    (refine nx (aA (gN rfl) rfl rfl rfl rfl rfl) rfl ?_)
    show AWp _ _ _ _ _ _ _
    exact aT (And.intro (.inr rfl) rfl)
  | true =>
  rw [hG] at f2
  cases hH : fine7B s with
  | false =>
    rw [hH] at f3
    refine aS (aS (aR ?_))
    (refine nx (aM (gN rfl) rfl rfl rfl rfl rfl) rfl ?_)
    (refine nx (a_call (gN rfl) rfl rfl rfl rfl rfl (f1)) rfl ?_)
    (refine nx (a_not (gN rfl) rfl rfl rfl rfl rfl) rfl ?_)
    (refine nx (aM (gN rfl) rfl rfl rfl rfl rfl) rfl ?_)
    (refine nx (aM (gd_on rfl rfl rfl rfl (by first | rfl | assumption | (simp; done))) rfl rfl rfl rfl rfl) rfl ?_)
    (refine nx (a_call (gd_on rfl rfl rfl rfl (by first | rfl | assumption | (simp; done))) rfl rfl rfl rfl rfl (f2)) rfl ?_)
    (refine nx (a_not (gd_on rfl rfl rfl rfl (by first | rfl | assumption | (simp; done))) rfl rfl rfl rfl rfl) rfl ?_)
    (refine ⟨_, _, _, aPf (gN rfl) rfl rfl rfl rfl rfl ?hb rfl, rfl, ?_⟩; case hb => (first | rfl | assumption | (simp; done)))
    (refine nx (aM (gN rfl) rfl rfl rfl rfl rfl) rfl ?_)
    (refine nx (aM (gd_on rfl rfl rfl rfl (by first | rfl | assumption | (simp; done))) rfl rfl rfl rfl rfl) rfl ?_)
    (refine nx (a_call (gd_on rfl rfl rfl rfl (by first | rfl | assumption | (simp; done))) rfl rfl rfl rfl rfl (f3)) rfl ?_)
    (refine nx (a_not (gd_on rfl rfl rfl rfl (by first | rfl | assumption | (simp; done))) rfl rfl rfl rfl rfl) rfl ?_)
    (refine ⟨_, _, _, aPf (gN rfl) rfl rfl rfl rfl rfl ?hb rfl, rfl, ?_⟩; case hb => (first | rfl | assumption | (simp; done)))
    (refine nx (aM (gN rfl) rfl rfl rfl rfl rfl) rfl ?_)
    (refine ⟨_, _, _, a_off (go_off rfl rfl rfl rfl (by first | rfl | assumption | (simp; done) | (simp [*]; done))) rfl rfl rfl, rfl, ?_⟩)
    (refine ⟨_, _, _, a_off (go_off rfl rfl rfl rfl (by first | rfl | assumption | (simp; done) | (simp [*]; done))) rfl rfl rfl, rfl, ?_⟩)
    (refine ⟨_, _, _, a_off (go_off rfl rfl rfl rfl (by first | rfl | assumption | (simp; done) | (simp [*]; done))) rfl rfl rfl, rfl, ?_⟩)
    (refine ⟨_, _, _, aPt (gN rfl) rfl rfl rfl rfl rfl ?hb rfl, rfl, ?_⟩; case hb => (first | rfl | assumption | (simp; done)))
    show AWp _ _ _ _ _ _ _
    refine aC rfl (fun hc => ?_) (fun hc => by cases hc)
    refine aS (aR ?_)
    (refine nx (aA (gN rfl) rfl rfl rfl rfl rfl) rfl ?_)
    show AWp _ _ _ _ _ _ _
    exact aT (And.intro (.inr rfl) rfl)
  | true =>
  rw [hH] at f3
  refine aS (aS (aR ?_))
  (refine nx (aM (gN rfl) rfl rfl rfl rfl rfl) rfl ?_)
  (refine nx (a_call (gN rfl) rfl rfl rfl rfl rfl (f1)) rfl ?_)
  (refine nx (a_not (gN rfl) rfl rfl rfl rfl rfl) rfl ?_)
  (refine nx (aM (gN rfl) rfl rfl rfl rfl rfl) rfl ?_)
  (refine nx (aM (gd_on rfl rfl rfl rfl (by first | rfl | assumption | (simp; done))) rfl rfl rfl rfl rfl) rfl ?_)
  (refine nx (a_call (gd_on rfl rfl rfl rfl (by first | rfl | assumption | (simp; done))) rfl rfl rfl rfl rfl (f2)) rfl ?_)
  (refine nx (a_not (gd_on rfl rfl rfl rfl (by first | rfl | assumption | (simp; done))) rfl rfl rfl rfl rfl) rfl ?_)
  (refine ⟨_, _, _, aPf (gN rfl) rfl rfl rfl rfl rfl ?hb rfl, rfl, ?_⟩; case hb => (first | rfl | assumption | (simp; done)))
  (refine nx (aM (gN rfl) rfl rfl rfl rfl rfl) rfl ?_)
  (refine nx (aM (gd_on rfl rfl rfl rfl (by first | rfl | assumption | (simp; done))) rfl rfl rfl rfl rfl) rfl ?_)
  (refine nx (a_call (gd_on rfl rfl rfl rfl (by first | rfl | assumption | (simp; done))) rfl rfl rfl rfl rfl (f3)) rfl ?_)
  (refine nx (a_not (gd_on rfl rfl rfl rfl (by first | rfl | assumption | (simp; done))) rfl rfl rfl rfl rfl) rfl ?_)
  (refine ⟨_, _, _, aPf (gN rfl) rfl rfl rfl rfl rfl ?hb rfl, rfl, ?_⟩; case hb => (first | rfl | assumption | (simp; done)))
  (refine nx (aM (gN rfl) rfl rfl rfl rfl rfl) rfl ?_)
  (refine nx (aM (gd_on rfl rfl rfl rfl (by first | rfl | assumption | (simp; done))) rfl rfl rfl rfl rfl) rfl ?_)
  (refine nx (a_len (gd_on rfl rfl rfl rfl (by first | rfl | assumption | (simp; done))) rfl rfl rfl rfl rfl rfl rfl) rfl ?_)
  (refine nx (a_eql (gd_on rfl rfl rfl rfl (by first | rfl | assumption | (simp; done))) rfl rfl rfl rfl rfl rfl) rfl ?_)
  (refine ⟨_, _, _, aPf (gN rfl) rfl rfl rfl rfl rfl ?hb rfl, rfl, ?_⟩; case hb => (first | rfl | assumption | (simp; done)))
  show AWp _ _ _ _ _ _ _
  refine aC rfl (fun h0 => ?_) (fun h0 => aK ?_)
  · refine aS (aR ?_)
    (refine nx (aA (gN rfl) rfl rfl rfl rfl rfl) rfl ?_)
    show AWp _ _ _ _ _ _ _
    exact aT (And.intro (.inr rfl) rfl)
  have hcl : (c.map Lt.cv).length = c.length := List.length_map ..
  have hpos : 0 < c.length := by
    have := of_decide_eq_false h0
    rw [hcl] at this
    omega
  show AWp _ _ _ _ _ _ _
  clear f1 f2 f3 h0
  obtain ⟨kc, sc, zc⟩ := fine_okCl (by decide) (by decide) (by decide) hF
  obtain ⟨kd, sd, zd⟩ := fine_okCl (by decide) (by decide) (by decide) hG
  obtain ⟨hs8, hso, hsk⟩ := fine7_f hH
  have la := (fineC_facts (by decide) (by decide) hF).1
  have lb := (fineC_facts (by decide) (by decide) hG).1
  refine aS (aR ?_)
  (refine nx (aM (gN rfl) rfl rfl rfl rfl rfl) rfl ?_)
  (refine nx (a_call (gN rfl) rfl rfl rfl rfl rfl (of11_abs w c (by omega) kc.ok)) rfl ?_)
  (refine nx (aM (gN rfl) rfl rfl rfl rfl rfl) rfl ?_)
  (refine nx (a_call (gN rfl) rfl rfl rfl rfl rfl (of11_abs w d (by omega) kd.ok)) rfl ?_)
  (refine nx (aA (gN rfl) rfl rfl rfl rfl rfl) rfl ?_)
  (refine nx (aA (gN rfl) rfl rfl rfl rfl rfl) rfl ?_)
  show AWp _ _ _ _ _ _ _
  have hsz := Lt.size_all c
  have hszd := Lt.size_all d
  have hdl : (d.map Lt.cv).length = d.length := List.length_map ..
  have hne : ((c.map Lt.cv).length : Int) ≠ 0 := by omega
  obtain ⟨j, hj⟩ : ∃ j : Nat, j = y.toNat % c.length := ⟨_, rfl⟩
  have hjl : j < c.length := by rw [hj]; exact Nat.mod_lt _ hpos
  have hrem : Int.tmod y ((c.map Lt.cv).length : Int) = (j : Int) := by
    rw [hcl, hj, Int.tmod_eq_emod_of_nonneg hy.1, Int.natCast_emod, Int.toNat_of_nonneg hy.1]
  obtain ⟨l, hl⟩ : ∃ x, c[j]? = some x := ⟨c[j], List.getElem?_eq_getElem hjl⟩
  have hl' := Lt.map_at hl
  have hlm := List.mem_of_getElem? hl
  have hlr := kc.rng l hlm
  refine aS (aR ?_)
  (refine nx (aM (gN rfl) rfl rfl rfl rfl rfl) rfl ?_)
  (refine nx (aM (gN rfl) rfl rfl rfl rfl rfl) rfl ?_)
  (refine nx (a_conv (gN rfl) rfl rfl rfl rfl rfl rfl rfl (by first | rfl | (rw [IntKind.wrap_i64]; omega) | assumption)) rfl ?_)
  (refine nx (aM (gN rfl) rfl rfl rfl rfl rfl) rfl ?_)
  (refine nx (a_len (gN rfl) rfl rfl rfl rfl rfl rfl rfl) rfl ?_)
  (refine nx (a_rem (gN rfl) rfl rfl rfl rfl rfl rfl (by first | decide | assumption)) rfl ?_)
  (refine nx (a_index (j := j) (gN rfl) rfl rfl rfl rfl rfl rfl rfl rfl (by first | assumption | exact (by first | rfl | omega | (simp only [List.length_set, List.length_map, List.length_append, List.length_cons, List.length_nil] <;> omega) | (simp <;> omega))) (hl') rfl (hsz)) rfl ?_)
  (refine nx (a_load_ad (gN rfl) rfl rfl rfl rfl rfl rfl rfl rfl rfl) rfl ?_)
  (refine nx (a_alloc (gN rfl) rfl rfl rfl rfl rfl rfl rfl rfl rfl rfl) rfl ?_)
  (refine nx (aSt (gN rfl) rfl rfl rfl rfl rfl rfl rfl rfl rfl rfl) rfl ?_)
  show AWp _ _ _ _ _ _ _
  refine AWp.wk (wk_sub (s' := [(2, .val (.lst (s.map Bd.cv))), (9, .val (.lst (c.map Lt.cv))), (10, .val (.lst (d.map Lt.cv))), (11, .bp 11 0 []), (100011, .bx l.cw)]) ⟨rfl, rfl, rfl, rfl, rfl, trivial⟩) ?_
  obtain ⟨t1, t2, t3⟩ := taut_same hlm
  have k1 := cTaut_abs w (c ++ [Lt.mk (!l.neg) l.a l.b]) (by rw [List.length_append]; simp; omega) (okC_snoc (l := Lt.mk (!l.neg) l.a l.b) kc.okC ⟨hlr.1, hlr.2⟩)
  have k2 := cTaut_abs w (c ++ [Lt.mk (!l.neg) l.b l.a]) (by rw [List.length_append]; simp; omega) (okC_snoc (l := Lt.mk (!l.neg) l.b l.a) kc.okC ⟨hlr.2, hlr.1⟩)
  have k3 := cTaut_abs w (c ++ [Lt.mk false l.a l.a]) (by rw [List.length_append]; simp; omega) (okC_snoc (l := Lt.mk false l.a l.a) kc.okC ⟨hlr.1, hlr.1⟩)
  rw [t1] at k1
  rw [t2] at k2
  rw [t3] at k3
  refine aS (aD (by kernel_rfl) (by kernel_rfl) ?_)
  (refine nx (a_bslice0 (gN rfl) rfl rfl rfl rfl rfl rfl rfl rfl) rfl ?_)
  (refine nx (aM (gN rfl) rfl rfl rfl rfl rfl) rfl ?_)
  (refine nx (a_app (gN rfl) rfl rfl rfl rfl rfl rfl rfl rfl rfl rfl rfl rfl rfl rfl rfl (by first | assumption | exact sZ rfl | exact Tm.size_all _ | exact Bd.size_all _ | exact ints_size _ | exact bys_size _ | exact Lt.size_all _) (by first | assumption | exact sZ rfl | exact Tm.size_all _ | exact Bd.size_all _ | exact ints_size _ | exact bys_size _ | exact Lt.size_all _) (by first | omega | (simp only [List.length_map, List.length_append, List.length_cons, List.length_nil] <;> omega) | (simp <;> omega))) rfl ?_)
  (refine nx (aF (gN rfl) rfl rfl rfl rfl rfl rfl rfl rfl rfl) rfl ?_)
  (refine nx (aLb (gN rfl) rfl rfl rfl rfl rfl rfl rfl rfl rfl rfl rfl rfl) rfl ?_)
  (refine nx (a_not (gN rfl) rfl rfl rfl rfl rfl) rfl ?_)
  (refine nx (aF (gN rfl) rfl rfl rfl rfl rfl rfl rfl rfl rfl) rfl ?_)
  (refine nx (aLb (gN rfl) rfl rfl rfl rfl rfl rfl rfl rfl rfl rfl rfl rfl) rfl ?_)
  (refine nx (aF (gN rfl) rfl rfl rfl rfl rfl rfl rfl rfl rfl) rfl ?_)
  (refine nx (aLb (gN rfl) rfl rfl rfl rfl rfl rfl rfl rfl rfl rfl rfl rfl) rfl ?_)
  (refine nx (a_build (gN rfl) rfl rfl rfl rfl rfl rfl rfl rfl rfl rfl rfl) rfl ?_)
  (refine nx (a_bslice (gN rfl) rfl rfl rfl rfl rfl rfl rfl rfl rfl rfl rfl rfl rfl) rfl ?_)
  (refine nx (a_app (gN rfl) rfl rfl rfl rfl rfl rfl rfl rfl rfl rfl rfl rfl rfl rfl rfl (by first | assumption | exact sZ rfl | exact Tm.size_all _ | exact Bd.size_all _ | exact ints_size _ | exact bys_size _ | exact Lt.size_all _) (by first | assumption | exact sZ rfl | exact Tm.size_all _ | exact Bd.size_all _ | exact ints_size _ | exact bys_size _ | exact Lt.size_all _) (by first | omega | (simp only [List.length_map, List.length_append, List.length_cons, List.length_nil] <;> omega) | (simp <;> omega))) rfl ?_)
  (refine nx (aA (gN rfl) rfl rfl rfl rfl rfl) rfl ?_)
  refine ⟨by kernel_rfl, ?_⟩
  show AWp _ _ _ _ _ _ _
  refine AWp.wk ((wk_plain 12 rfl).trans (wk_sub (s' := [(2, .val (.lst (s.map Bd.cv))), (9, .val (.lst (c.map Lt.cv))), (10, .val (.lst (d.map Lt.cv))), (11, .bp 11 0 []), (100011, .bx l.cw), (12, .val (.lst ((c ++ [Lt.mk (!l.neg) l.a l.b]).map Lt.cv)))]) ⟨rfl, rfl, rfl, rfl, rfl, by rw [List.map_append]; rfl, trivial⟩)) ?_
  refine aS (aD (by kernel_rfl) (by kernel_rfl) ?_)
  (refine nx (a_bslice0 (gN rfl) rfl rfl rfl rfl rfl rfl rfl rfl) rfl ?_)
  (refine nx (aM (gN rfl) rfl rfl rfl rfl rfl) rfl ?_)
  (refine nx (a_app (gN rfl) rfl rfl rfl rfl rfl rfl rfl rfl rfl rfl rfl rfl rfl rfl rfl (by first | assumption | exact sZ rfl | exact Tm.size_all _ | exact Bd.size_all _ | exact ints_size _ | exact bys_size _ | exact Lt.size_all _) (by first | assumption | exact sZ rfl | exact Tm.size_all _ | exact Bd.size_all _ | exact ints_size _ | exact bys_size _ | exact Lt.size_all _) (by first | omega | (simp only [List.length_map, List.length_append, List.length_cons, List.length_nil] <;> omega) | (simp <;> omega))) rfl ?_)
  (refine nx (aF (gN rfl) rfl rfl rfl rfl rfl rfl rfl rfl rfl) rfl ?_)
  (refine nx (aLb (gN rfl) rfl rfl rfl rfl rfl rfl rfl rfl rfl rfl rfl rfl) rfl ?_)
  (refine nx (a_not (gN rfl) rfl rfl rfl rfl rfl) rfl ?_)
  (refine nx (aF (gN rfl) rfl rfl rfl rfl rfl rfl rfl rfl rfl) rfl ?_)
  (refine nx (aLb (gN rfl) rfl rfl rfl rfl rfl rfl rfl rfl rfl rfl rfl rfl) rfl ?_)
  (refine nx (aF (gN rfl) rfl rfl rfl rfl rfl rfl rfl rfl rfl) rfl ?_)
  (refine nx (aLb (gN rfl) rfl rfl rfl rfl rfl rfl rfl rfl rfl rfl rfl rfl) rfl ?_)
  (refine nx (a_build (gN rfl) rfl rfl rfl rfl rfl rfl rfl rfl rfl rfl rfl) rfl ?_)
  (refine nx (a_bslice (gN rfl) rfl rfl rfl rfl rfl rfl rfl rfl rfl rfl rfl rfl rfl) rfl ?_)
  (refine nx (a_app (gN rfl) rfl rfl rfl rfl rfl rfl rfl rfl rfl rfl rfl rfl rfl rfl rfl (by first | assumption | exact sZ rfl | exact Tm.size_all _ | exact Bd.size_all _ | exact ints_size _ | exact bys_size _ | exact Lt.size_all _) (by first | assumption | exact sZ rfl | exact Tm.size_all _ | exact Bd.size_all _ | exact ints_size _ | exact bys_size _ | exact Lt.size_all _) (by first | omega | (simp only [List.length_map, List.length_append, List.length_cons, List.length_nil] <;> omega) | (simp <;> omega))) rfl ?_)
  (refine nx (aA (gN rfl) rfl rfl rfl rfl rfl) rfl ?_)
  refine ⟨by kernel_rfl, ?_⟩
  show AWp _ _ _ _ _ _ _
  refine AWp.wk ((wk_plain 13 rfl).trans (wk_sub (s' := [(2, .val (.lst (s.map Bd.cv))), (9, .val (.lst (c.map Lt.cv))), (10, .val (.lst (d.map Lt.cv))), (11, .bp 11 0 []), (100011, .bx l.cw), (12, .val (.lst ((c ++ [Lt.mk (!l.neg) l.a l.b]).map Lt.cv))), (13, .val (.lst ((c ++ [Lt.mk (!l.neg) l.b l.a]).map Lt.cv)))]) ⟨rfl, rfl, rfl, rfl, rfl, rfl, by rw [List.map_append (l₁ := c) (l₂ := [Lt.mk (!l.neg) l.b l.a])]; rfl, trivial⟩)) ?_
  refine aS (aD (by kernel_rfl) (by kernel_rfl) ?_)
  (refine nx (a_bslice0 (gN rfl) rfl rfl rfl rfl rfl rfl rfl rfl) rfl ?_)
  (refine nx (aM (gN rfl) rfl rfl rfl rfl rfl) rfl ?_)
  (refine nx (a_app (gN rfl) rfl rfl rfl rfl rfl rfl rfl rfl rfl rfl rfl rfl rfl rfl rfl (by first | assumption | exact sZ rfl | exact Tm.size_all _ | exact Bd.size_all _ | exact ints_size _ | exact bys_size _ | exact Lt.size_all _) (by first | assumption | exact sZ rfl | exact Tm.size_all _ | exact Bd.size_all _ | exact ints_size _ | exact bys_size _ | exact Lt.size_all _) (by first | omega | (simp only [List.length_map, List.length_append, List.length_cons, List.length_nil] <;> omega) | (simp <;> omega))) rfl ?_)
  (refine nx (aF (gN rfl) rfl rfl rfl rfl rfl rfl rfl rfl rfl) rfl ?_)
  (refine nx (aLb (gN rfl) rfl rfl rfl rfl rfl rfl rfl rfl rfl rfl rfl rfl) rfl ?_)
  (refine nx (aF (gN rfl) rfl rfl rfl rfl rfl rfl rfl rfl rfl) rfl ?_)
  (refine nx (aLb (gN rfl) rfl rfl rfl rfl rfl rfl rfl rfl rfl rfl rfl rfl) rfl ?_)
  (refine nx (a_build (gN rfl) rfl rfl rfl rfl rfl rfl rfl rfl rfl rfl rfl) rfl ?_)
  (refine nx (a_bslice (gN rfl) rfl rfl rfl rfl rfl rfl rfl rfl rfl rfl rfl rfl rfl) rfl ?_)
  (refine nx (a_app (gN rfl) rfl rfl rfl rfl rfl rfl rfl rfl rfl rfl rfl rfl rfl rfl rfl (by first | assumption | exact sZ rfl | exact Tm.size_all _ | exact Bd.size_all _ | exact ints_size _ | exact bys_size _ | exact Lt.size_all _) (by first | assumption | exact sZ rfl | exact Tm.size_all _ | exact Bd.size_all _ | exact ints_size _ | exact bys_size _ | exact Lt.size_all _) (by first | omega | (simp only [List.length_map, List.length_append, List.length_cons, List.length_nil] <;> omega) | (simp <;> omega))) rfl ?_)
  (refine nx (aA (gN rfl) rfl rfl rfl rfl rfl) rfl ?_)
  refine ⟨by kernel_rfl, ?_⟩
  show AWp _ _ _ _ _ _ _
  refine AWp.wk ((wk_plain 14 rfl).trans (wk_sub (s' := [(2, .val (.lst (s.map Bd.cv))), (9, .val (.lst (c.map Lt.cv))), (10, .val (.lst (d.map Lt.cv))), (12, .val (.lst ((c ++ [Lt.mk (!l.neg) l.a l.b]).map Lt.cv))), (13, .val (.lst ((c ++ [Lt.mk (!l.neg) l.b l.a]).map Lt.cv))), (14, .val (.lst ((c ++ [Lt.mk false l.a l.a]).map Lt.cv)))]) ⟨rfl, rfl, rfl, rfl, rfl, by rw [List.map_append (l₁ := c) (l₂ := [Lt.mk false l.a l.a])]; rfl, trivial⟩)) ?_
  refine aS (aS (aR ?_))
  (refine nx (aM (gN rfl) rfl rfl rfl rfl rfl) rfl ?_)
  (refine nx (a_call (gN rfl) rfl rfl rfl rfl rfl (k1)) rfl ?_)
  (refine nx (a_not (gN rfl) rfl rfl rfl rfl rfl) rfl ?_)
  (refine nx (aM (gN rfl) rfl rfl rfl rfl rfl) rfl ?_)
  (refine nx (aM (gd_on rfl rfl rfl rfl (by first | rfl | assumption | (simp; done))) rfl rfl rfl rfl rfl) rfl ?_)
  (refine nx (a_call (gd_on rfl rfl rfl rfl (by first | rfl | assumption | (simp; done))) rfl rfl rfl rfl rfl (k2)) rfl ?_)
  (refine nx (a_not (gd_on rfl rfl rfl rfl (by first | rfl | assumption | (simp; done))) rfl rfl rfl rfl rfl) rfl ?_)
  (refine ⟨_, _, _, aPf (gN rfl) rfl rfl rfl rfl rfl ?hb rfl, rfl, ?_⟩; case hb => (first | rfl | assumption | (simp; done)))
  (refine nx (aM (gN rfl) rfl rfl rfl rfl rfl) rfl ?_)
  (refine nx (aM (gd_on rfl rfl rfl rfl (by first | rfl | assumption | (simp; done))) rfl rfl rfl rfl rfl) rfl ?_)
  (refine nx (a_call (gd_on rfl rfl rfl rfl (by first | rfl | assumption | (simp; done))) rfl rfl rfl rfl rfl (k3)) rfl ?_)
  (refine nx (a_not (gd_on rfl rfl rfl rfl (by first | rfl | assumption | (simp; done))) rfl rfl rfl rfl rfl) rfl ?_)
  (refine ⟨_, _, _, aPf (gN rfl) rfl rfl rfl rfl rfl ?hb rfl, rfl, ?_⟩; case hb => (first | rfl | assumption | (simp; done)))
  show AWp _ _ _ _ _ _ _
  refine aC rfl (fun h => by cases h) (fun h => aK ?_)
  show AWp _ _ _ _ _ _ _
  have k4 := cTaut_abs w c (by omega) kc.okC
  cases hT : tautP c with
  | false =>
    rw [hT] at k4
    refine aS (aS (aR ?_))
    (refine nx (aM (gN rfl) rfl rfl rfl rfl rfl) rfl ?_)
    (refine nx (a_call (gN rfl) rfl rfl rfl rfl rfl (k4)) rfl ?_)
    (refine nx (a_not (gN rfl) rfl rfl rfl rfl rfl) rfl ?_)
    show AWp _ _ _ _ _ _ _
    refine aC rfl (fun h => ?_) (fun h => by cases h)
    refine aS (aR ?_)
    (refine nx (aA (gN rfl) rfl rfl rfl rfl rfl) rfl ?_)
    show AWp _ _ _ _ _ _ _
    exact aT (And.intro (.inr rfl) rfl)
  | true =>
  rw [hT] at k4
  refine aS (aS (aR ?_))
  (refine nx (aM (gN rfl) rfl rfl rfl rfl rfl) rfl ?_)
  (refine nx (a_call (gN rfl) rfl rfl rfl rfl rfl (k4)) rfl ?_)
  (refine nx (a_not (gN rfl) rfl rfl rfl rfl rfl) rfl ?_)
  show AWp _ _ _ _ _ _ _
  refine aC rfl (fun h => by cases h) (fun h => aK ?_)
  show AWp _ _ _ _ _ _ _
  have hQ := (taut_iff c).1 hT
  have hap := cApply_abs w s c (by omega) (by omega) hso kc.sid.1 kc.sid.2.1
  have k5 := cTaut_abs w (c.map (Lt.rep (imgB s))) (by rw [List.length_map]; omega) (fun x hx => by
    obtain ⟨l, hl, rfl⟩ := List.mem_map.1 hx
    exact ⟨repT_rng (kc.rng l hl).1 fun v h1 h2 => (imgB_ok hso h1 h2).1, repT_rng (kc.rng l hl).2 fun v h1 h2 => (imgB_ok hso h1 h2).1⟩)
  rw [(taut_iff _).2 (hQ.rep (imgB s))] at k5
  have k6 := cTaut_abs w (d ++ c) (by rw [List.length_append]; omega) (fun x hx => by
    rcases List.mem_append.1 hx with hx | hx
    · exact kd.okC x hx
    · exact kc.okC x hx)
  rw [(taut_iff _).2 (hQ.sub fun l hl => List.mem_append_right _ hl), List.map_append] at k6
  have hno := cNorm_abs w c kc
  have kn := kc.norm
  have k7 := cTaut_abs w (nmP c) kn.1 kn.okC
  rw [(taut_iff _).2 hQ.norm] at k7
  refine aS (aR ?_)
  (refine nx (aM (gN rfl) rfl rfl rfl rfl rfl) rfl ?_)
  (refine nx (a_call (gN rfl) rfl rfl rfl rfl rfl (of7_abs w s (by omega) hsk)) rfl ?_)
  (refine nx (aM (gN rfl) rfl rfl rfl rfl rfl) rfl ?_)
  (refine nx (a_call (gN rfl) rfl rfl rfl rfl rfl (hap)) rfl ?_)
  (refine nx (a_call (gN rfl) rfl rfl rfl rfl rfl (k5)) rfl ?_)
  (refine nx (aM (gN rfl) rfl rfl rfl rfl rfl) rfl ?_)
  (refine nx (a_bslice0 (gd_on rfl rfl rfl rfl (by first | rfl | assumption | (simp; done))) rfl rfl rfl rfl rfl rfl rfl rfl) rfl ?_)
  (refine nx (aM (gd_on rfl rfl rfl rfl (by first | rfl | assumption | (simp; done))) rfl rfl rfl rfl rfl) rfl ?_)
  (refine nx (a_app (gd_on rfl rfl rfl rfl (by first | rfl | assumption | (simp; done))) rfl rfl rfl rfl rfl rfl rfl rfl rfl rfl rfl rfl rfl rfl rfl (by first | assumption | exact sZ rfl | exact Tm.size_all _ | exact Bd.size_all _ | exact ints_size _ | exact bys_size _ | exact Lt.size_all _) (by first | assumption | exact sZ rfl | exact Tm.size_all _ | exact Bd.size_all _ | exact ints_size _ | exact bys_size _ | exact Lt.size_all _) (by first | omega | (simp only [List.length_map, List.length_append, List.length_cons, List.length_nil] <;> omega) | (simp <;> omega))) rfl ?_)
  (refine nx (aM (gd_on rfl rfl rfl rfl (by first | rfl | assumption | (simp; done))) rfl rfl rfl rfl rfl) rfl ?_)
  (refine nx (a_app (gd_on rfl rfl rfl rfl (by first | rfl | assumption | (simp; done))) rfl rfl rfl rfl rfl rfl rfl rfl rfl rfl rfl rfl rfl rfl rfl (by first | assumption | exact sZ rfl | exact Tm.size_all _ | exact Bd.size_all _ | exact ints_size _ | exact bys_size _ | exact Lt.size_all _) (by first | assumption | exact sZ rfl | exact Tm.size_all _ | exact Bd.size_all _ | exact ints_size _ | exact bys_size _ | exact Lt.size_all _) (by first | omega | (simp only [List.length_map, List.length_append, List.length_cons, List.length_nil] <;> omega) | (simp <;> omega))) rfl ?_)
  (refine nx (a_call (gd_on rfl rfl rfl rfl (by first | rfl | assumption | (simp; done))) rfl rfl rfl rfl rfl (k6)) rfl ?_)
  (refine ⟨_, _, _, aPt (gN rfl) rfl rfl rfl rfl rfl ?hb rfl, rfl, ?_⟩; case hb => (first | rfl | assumption | (simp; done)))
  (refine nx (aM (gN rfl) rfl rfl rfl rfl rfl) rfl ?_)
  (refine nx (aM (gd_on rfl rfl rfl rfl (by first | rfl | assumption | (simp; done))) rfl rfl rfl rfl rfl) rfl ?_)
  (refine nx (a_call (gd_on rfl rfl rfl rfl (by first | rfl | assumption | (simp; done))) rfl rfl rfl rfl rfl (hno)) rfl ?_)
  (refine nx (a_call (gd_on rfl rfl rfl rfl (by first | rfl | assumption | (simp; done))) rfl rfl rfl rfl rfl (k7)) rfl ?_)
  (refine ⟨_, _, _, aPt (gN rfl) rfl rfl rfl rfl rfl ?hb rfl, rfl, ?_⟩; case hb => (first | rfl | assumption | (simp; done)))
  (refine nx (aA (gN rfl) rfl rfl rfl rfl rfl) rfl ?_)
  show AWp _ _ _ _ _ _ _
  exact aT (And.intro (.inr rfl) rfl)
theorem shp_bool {n : Nat} {c : CV} (h : Shp Tryz.prog n 4 c) : ∃ b, c = .b b := by
  cases n with
  | zero => exact h.elim
  | succ n =>
    rw [Shp, Tryz.underlying4] at h
    exact h
theorem shp_lits {n : Nat} {c : CV} (h : Shp Tryz.prog n 22 c) : ∃ l : List Lt, c = .lst (l.map Lt.cv) ∧ okC l := by
  cases n with
  | zero => exact h.elim
  | succ n =>
    rw [Shp, Tryz.underlying22] at h
    obtain ⟨l, rfl, hl⟩ := h
    obtain ⟨m, h1, h2⟩ := list_of Lt.cv (fun l => l.a.rng ∧ l.b.rng) (l := l) (fun x hx => by
      have hx := hl x hx
      cases n with
      | zero => exact hx.elim
      | succ n =>
        have hx : Shp Tryz.prog (n + 1) 35 x := hx
        rw [Shp, Tryz.underlying35] at hx
        obtain ⟨l, rfl, hl, hf⟩ := hx
        match l, hl with
        | [x, y, z], _ =>
          obtain ⟨b, rfl⟩ := shp_bool (hf 0 _ x rfl rfl)
          obtain ⟨t, rfl, ht⟩ := shp_tm n (hf 1 _ y rfl rfl)
          obtain ⟨u, rfl, hu⟩ := shp_tm n (hf 2 _ z rfl rfl)
          exact ⟨⟨b, t, u⟩, rfl, ht, hu⟩)
    exact ⟨m, by rw [h1], h2⟩
end Go.Proofs.YtmeegdomncadpaaGreat

