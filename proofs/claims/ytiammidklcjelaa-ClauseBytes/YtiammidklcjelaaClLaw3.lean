/-
  The law ClauseBytes.
-/
import Derived.Test.YtiammidklcjelaaMg5
import Derived.Test.YtiammidklcjelaaAbShp
namespace Go.Proofs.Ytiammidklcjelaa
open Go.RowKit
set_option linter.unusedVariables false
set_option linter.unusedSimpArgs false
set_option maxRecDepth 100000

theorem wT_wf : ∀ (t : Tm), t.rng → t.ok → wfB (wT t) := by
  intro t
  induction t using Tm.indp with
  | h t ih =>
    intro hr hok
    obtain ⟨h1, h2⟩ := (Tm.rng_iff _).1 hr
    obtain ⟨h3, h4⟩ := (Tm.ok_iff _).1 hok
    have hz : wfB (ubytes (zz t.f)) := ubytes_wf (zz_lt t.f (by omega) (by omega))
    by_cases hf : t.f < 0
    · rw [wT_var hf]; exact hz
    · rw [Tm.ps_of_sym (by omega)] at ih
      rw [wT_sym hf]
      intro z hm
      rcases List.mem_append.1 hm with hm | hm
      · exact hz z hm
      · rcases List.mem_append.1 hm with hm | hm
        · exact ubytes_wf (n := t.l.length) (by omega) z hm
        · obtain ⟨x, hx, hm⟩ := List.mem_flatMap.1 hm
          exact ih x hx (h2 x hx) (h4 x hx) z hm
theorem wC_wf {c : List Lt} (hl : c.length ≤ 1000000) (hc : ∀ l ∈ c, (l.a.rng ∧ l.a.ok) ∧ (l.b.rng ∧ l.b.ok)) : wfB (wC c) := fun z hm => by
  rcases List.mem_append.1 hm with hm | hm
  · exact ubytes_wf (n := c.length) (by omega) z hm
  · obtain ⟨x, hx, hm⟩ := List.mem_flatMap.1 hm
    rcases List.mem_cons.1 hm with rfl | hm
    · split <;> decide
    · rcases List.mem_append.1 hm with hm | hm
      · exact wT_wf _ (hc x hx).1.1 (hc x hx).1.2 z hm
      · exact wT_wf _ (hc x hx).2.1 (hc x hx).2.2 z hm
theorem wT_len : ∀ (t : Tm), (wT t).length ≤ 20 * t.wt := by
  intro t
  induction t using Tm.indp with
  | h t ih =>
    have h1 := ubytes_le (zz t.f)
    have h2 := ubytes_le t.l.length
    have hw := Tm.wt_eq t
    by_cases hf : t.f < 0
    · rw [wT_var hf]; omega
    · rw [Tm.ps_of_sym (by omega)] at ih
      rw [wT_sym hf, List.length_append, List.length_append]
      have : ∀ l : List Tm, (∀ s ∈ l, (wT s).length ≤ 20 * s.wt) → (l.flatMap wT).length ≤ 20 * Tm.wts l := fun l => by
        induction l with
        | nil => intro _; exact Nat.zero_le _
        | cons x l ih2 =>
          intro h
          rw [List.flatMap_cons, List.length_append, wts_cons]
          have a1 := h x (by simp)
          have a2 := ih2 fun s hs => h s (List.mem_cons_of_mem _ hs)
          omega
      have := this t.l ih
      omega
theorem wC_len {c : List Lt} (hl : c.length ≤ 6) (hc : ∀ l ∈ c, l.a.wt ≤ 30 ∧ l.b.wt ≤ 30) : (wC c).length ≤ 10000 := by
  have h1 := ubytes_le c.length
  have : ∀ c : List Lt, (∀ l ∈ c, l.a.wt ≤ 30 ∧ l.b.wt ≤ 30) → (c.flatMap wL).length ≤ 1201 * c.length := fun c => by
    induction c with
    | nil => intro _; exact Nat.zero_le _
    | cons x c ih =>
      intro h
      rw [List.flatMap_cons, List.length_append, List.length_cons]
      have a1 := h x (by simp)
      have a2 := ih fun s hs => h s (List.mem_cons_of_mem _ hs)
      have a3 := wT_len x.a
      have a4 := wT_len x.b
      have a5 : (wL x).length = 1 + ((wT x.a).length + (wT x.b).length) := by unfold wL; rw [List.length_cons, List.length_append]; omega
      omega
  have := this c hc
  unfold wC
  rw [List.length_append]
  omega
-- 
set_option maxHeartbeats 8000000 in
theorem clauseBytes_abs (W : World) (c : List Lt) (ahead behind : List Int) (y : Int) (hr : okC c) (ha : wfB ahead) (hb : wfB behind) (hy : 0 ≤ y ∧ y ≤ 65535) : AFun Try.prog W 3 [.lst (c.map Lt.cv), .lst (ahead.map by8), .lst (behind.map by8), .sc (.int .u16 y)] (.val (.b true)) := by
  refine afun_of (rs := [.b true]) Try.func3 Try.ntmps3 rfl rfl rfl rfl ?_
  intro w U hW
  refine aS (aR ?_)
  (refine nx (aA (gN rfl) rfl rfl rfl rfl rfl) rfl ?_)
  show AWp _ _ _ _ _ _ _
  refine aS (aS (aR ?_))
  (refine nx (a_call (gN rfl) rfl rfl rfl rfl rfl (alive11_abs w)) rfl ?_)
  (refine nx (a_not (gN rfl) rfl rfl rfl rfl rfl) rfl ?_)
  show AWp _ _ _ _ _ _ _
  refine aC rfl (fun hc => by cases hc) (fun _ => aK ?_)
  show AWp _ _ _ _ _ _ _
  have hfi := fine11_abs w c 6 30 (by decide) (by decide) (by decide) hr
  cases hF : fineC c 6 30 with
  | false =>
    rw [hF] at hfi
    refine aS (aS (aR ?_))
    (refine nx (aM (gN rfl) rfl rfl rfl rfl rfl) rfl ?_)
    (refine nx (a_call (gN rfl) rfl rfl rfl rfl rfl (hfi)) rfl ?_)
    (refine nx (a_not (gN rfl) rfl rfl rfl rfl rfl) rfl ?_)
    (refine nx (aM (gN rfl) rfl rfl rfl rfl rfl) rfl ?_)
    (refine ⟨_, _, _, a_off (go_off rfl rfl rfl rfl (by first | rfl | assumption | (simp; done) | (simp [*]; done))) rfl rfl rfl, rfl, ?_⟩)
    (refine ⟨_, _, _, a_off (go_off rfl rfl rfl rfl (by first | rfl | assumption | (simp; done) | (simp [*]; done))) rfl rfl rfl, rfl, ?_⟩)
    (refine ⟨_, _, _, a_off (go_off rfl rfl rfl rfl (by first | rfl | assumption | (simp; done) | (simp [*]; done))) rfl rfl rfl, rfl, ?_⟩)
    (refine ⟨_, _, _, aPt (gN rfl) rfl rfl rfl rfl rfl ?hb rfl, rfl, ?_⟩; case hb => (first | rfl | assumption | (simp; done)))
    (refine nx (aM (gN rfl) rfl rfl rfl rfl rfl) rfl ?_)
    (refine ⟨_, _, _, a_off (go_off rfl rfl rfl rfl (by first | rfl | assumption | (simp; done) | (simp [*]; done))) rfl rfl rfl, rfl, ?_⟩)
    (refine ⟨_, _, _, a_off (go_off rfl rfl rfl rfl (by first | rfl | assumption | (simp; done) | (simp [*]; done))) rfl rfl rfl, rfl, ?_⟩)
    (refine ⟨_, _, _, a_off (go_off rfl rfl rfl rfl (by first | rfl | assumption | (simp; done) | (simp [*]; done))) rfl rfl rfl, rfl, ?_⟩)
    (refine ⟨_, _, _, aPt (gN rfl) rfl rfl rfl rfl rfl ?hb rfl, rfl, ?_⟩; case hb => (first | rfl | assumption | (simp; done)))
    show AWp _ _ _ _ _ _ _
    refine aC rfl (fun hc => ?_) (fun hc => by cases hc)
    refine aS (aR ?_)
    (refine nx (aA (gN rfl) rfl rfl rfl rfl rfl) rfl ?_)
    show AWp _ _ _ _ _ _ _
    exact aT (And.intro (.inr rfl) rfl)
  | true =>
  rw [hF] at hfi
  by_cases hA : ahead.length > 100
  · have gA : decide (((ahead.map by8).length : Int) > 100) = true := by rw [decide_eq_true_eq, List.length_map]; omega
    refine aS (aS (aR ?_))
    (refine nx (aM (gN rfl) rfl rfl rfl rfl rfl) rfl ?_)
    (refine nx (a_call (gN rfl) rfl rfl rfl rfl rfl (hfi)) rfl ?_)
    (refine nx (a_not (gN rfl) rfl rfl rfl rfl rfl) rfl ?_)
    (refine nx (aM (gN rfl) rfl rfl rfl rfl rfl) rfl ?_)
    (refine nx (aM (gd_on rfl rfl rfl rfl (by first | rfl | assumption | (simp; done))) rfl rfl rfl rfl rfl) rfl ?_)
    (refine nx (a_len (gd_on rfl rfl rfl rfl (by first | rfl | assumption | (simp; done))) rfl rfl rfl rfl rfl rfl rfl) rfl ?_)
    (refine nx (a_gtr (gd_on rfl rfl rfl rfl (by first | rfl | assumption | (simp; done))) rfl rfl rfl rfl rfl rfl) rfl ?_)
    (refine ⟨_, _, _, aPf (gN rfl) rfl rfl rfl rfl rfl ?hb rfl, rfl, ?_⟩; case hb => (first | rfl | assumption | (simp; done)))
    (refine nx (aM (gN rfl) rfl rfl rfl rfl rfl) rfl ?_)
    (refine ⟨_, _, _, a_off (go_off rfl rfl rfl rfl (by first | rfl | assumption | (simp; done) | (simp [*]; done))) rfl rfl rfl, rfl, ?_⟩)
    (refine ⟨_, _, _, a_off (go_off rfl rfl rfl rfl (by first | rfl | assumption | (simp; done) | (simp [*]; done))) rfl rfl rfl, rfl, ?_⟩)
    (refine ⟨_, _, _, a_off (go_off rfl rfl rfl rfl (by first | rfl | assumption | (simp; done) | (simp [*]; done))) rfl rfl rfl, rfl, ?_⟩)
    (refine ⟨_, _, _, aPt (gN rfl) rfl rfl rfl rfl rfl ?hb rfl, rfl, ?_⟩; case hb => (first | rfl | assumption | (simp; done)))
    show AWp _ _ _ _ _ _ _
    refine aC rfl (fun hc => ?_) (fun hc => by cases hc)
    refine aS (aR ?_)
    (refine nx (aA (gN rfl) rfl rfl rfl rfl rfl) rfl ?_)
    show AWp _ _ _ _ _ _ _
    exact aT (And.intro (.inr rfl) rfl)
  have gA : decide (((ahead.map by8).length : Int) > 100) = false := by rw [decide_eq_false_iff_not, List.length_map]; omega
  refine aS (aS (aR ?_))
  (refine nx (aM (gN rfl) rfl rfl rfl rfl rfl) rfl ?_)
  (refine nx (a_call (gN rfl) rfl rfl rfl rfl rfl (hfi)) rfl ?_)
  (refine nx (a_not (gN rfl) rfl rfl rfl rfl rfl) rfl ?_)
  (refine nx (aM (gN rfl) rfl rfl rfl rfl rfl) rfl ?_)
  (refine nx (aM (gd_on rfl rfl rfl rfl (by first | rfl | assumption | (simp; done))) rfl rfl rfl rfl rfl) rfl ?_)
  (refine nx (a_len (gd_on rfl rfl rfl rfl (by first | rfl | assumption | (simp; done))) rfl rfl rfl rfl rfl rfl rfl) rfl ?_)
  (refine nx (a_gtr (gd_on rfl rfl rfl rfl (by first | rfl | assumption | (simp; done))) rfl rfl rfl rfl rfl rfl) rfl ?_)
  (refine ⟨_, _, _, aPf (gN rfl) rfl rfl rfl rfl rfl ?hb rfl, rfl, ?_⟩; case hb => (first | rfl | assumption | (simp; done)))
  (refine nx (aM (gN rfl) rfl rfl rfl rfl rfl) rfl ?_)
  (refine nx (aM (gd_on rfl rfl rfl rfl (by first | rfl | assumption | (simp; done))) rfl rfl rfl rfl rfl) rfl ?_)
  (refine nx (a_len (gd_on rfl rfl rfl rfl (by first | rfl | assumption | (simp; done))) rfl rfl rfl rfl rfl rfl rfl) rfl ?_)
  (refine nx (a_gtr (gd_on rfl rfl rfl rfl (by first | rfl | assumption | (simp; done))) rfl rfl rfl rfl rfl rfl) rfl ?_)
  (refine ⟨_, _, _, aPf (gN rfl) rfl rfl rfl rfl rfl ?hb rfl, rfl, ?_⟩; case hb => (first | rfl | assumption | (simp; done)))
  show AWp _ _ _ _ _ _ _
  refine aC rfl (fun hc => ?_) (fun hc => ?_)
  · refine aS (aR ?_)
    (refine nx (aA (gN rfl) rfl rfl rfl rfl rfl) rfl ?_)
    show AWp _ _ _ _ _ _ _
    exact aT (And.intro (.inr rfl) rfl)
  have hB : behind.length ≤ 100 := by
    have := of_decide_eq_false hc
    rw [List.length_map] at this
    omega
  clear hc gA hfi
  refine aK ?_
  show AWp _ _ _ _ _ _ _
  obtain ⟨hl6, hcf⟩ := fineC_facts (by decide) (by decide) hF
  have hro : ∀ l ∈ c, (l.a.rng ∧ l.a.ok) ∧ (l.b.rng ∧ l.b.ok) := fun l hl => ⟨⟨(hcf l hl).1.1.2.1, (hcf l hl).1.1.2.2⟩, (hcf l hl).2.1.2.1, (hcf l hl).2.1.2.2⟩
  have hok : ∀ l ∈ c, l.a.ok ∧ l.b.ok := fun l hl => ⟨(hro l hl).1.2, (hro l hl).2.2⟩
  have hwl := wC_len hl6 fun l hl => ⟨by have := (hcf l hl).1.2.1; omega, by have := (hcf l hl).2.2.1; omega⟩
  have hwf := wC_wf (by omega) hro
  have htr := rC_tr (c := c) (by omega) fun l hl => ⟨⟨(hcf l hl).1.1.1, (hcf l hl).2.1.1⟩, by have := (hcf l hl).1.2.1; omega, by have := (hcf l hl).2.2.1; omega⟩
  have hpos : 0 < (wC c).length := by unfold wC; rw [List.length_append]; have := ub_pos c.length; omega
  obtain ⟨Z, hZ⟩ : ∃ Z, Z = ahead ++ wC c := ⟨_, rfl⟩
  have hZl : Z.length = ahead.length + (wC c).length := by rw [hZ, List.length_append]
  have hZw : wfB Z := fun z hm => by
    rw [hZ] at hm
    rcases List.mem_append.1 hm with hm | hm
    · exact ha z hm
    · exact hwf z hm
  have hof := of11_abs w c (by omega) hok
  have hpu := cPut_abs w ahead c (by omega) hro
  rw [← hZ] at hpu
  have hby := refBytes_abs w c (by omega) hro
  have sz1 := bys_size ahead
  have sz2 := bys_size (wC c)
  have sz3 := bys_size Z
  have sz4 := bys_size behind
  have lm1 : (ahead.map by8).length = ahead.length := List.length_map ..
  have lm2 : ((wC c).map by8).length = (wC c).length := List.length_map ..
  have lm3 : (Z.map by8).length = Z.length := List.length_map ..
  have lm4 : (behind.map by8).length = behind.length := List.length_map ..
  refine aS (aR ?_)
  (refine nx (aM (gN rfl) rfl rfl rfl rfl rfl) rfl ?_)
  (refine nx (aM (gN rfl) rfl rfl rfl rfl rfl) rfl ?_)
  (refine nx (a_call (gN rfl) rfl rfl rfl rfl rfl (hof)) rfl ?_)
  (refine nx (a_call (gN rfl) rfl rfl rfl rfl rfl (hpu)) rfl ?_)
  (refine nx (aA (gN rfl) rfl rfl rfl rfl rfl) rfl ?_)
  show AWp _ _ _ _ _ _ _
  refine aS (aR ?_)
  (refine nx (a_bslice0 (gN rfl) rfl rfl rfl rfl rfl rfl rfl rfl) rfl ?_)
  (refine nx (aM (gN rfl) rfl rfl rfl rfl rfl) rfl ?_)
  (refine nx (a_app (gN rfl) rfl rfl rfl rfl rfl rfl rfl rfl rfl rfl rfl rfl rfl rfl rfl (by first | assumption | exact sZ rfl | exact Tm.size_all _ | exact Bd.size_all _ | exact ints_size _ | exact bys_size _ | exact Lt.size_all _) (by first | assumption | exact sZ rfl | exact Tm.size_all _ | exact Bd.size_all _ | exact ints_size _ | exact bys_size _ | exact Lt.size_all _) (by first | omega | (simp only [List.length_map, List.length_append, List.length_cons, List.length_nil] <;> omega) | (simp <;> omega))) rfl ?_)
  (refine nx (aM (gN rfl) rfl rfl rfl rfl rfl) rfl ?_)
  (refine nx (a_call (gN rfl) rfl rfl rfl rfl rfl (hby)) rfl ?_)
  (refine nx (a_app (gN rfl) rfl rfl rfl rfl rfl rfl rfl rfl rfl rfl rfl rfl rfl rfl rfl (by first | assumption | exact sZ rfl | exact Tm.size_all _ | exact Bd.size_all _ | exact ints_size _ | exact bys_size _ | exact Lt.size_all _) (by first | assumption | exact sZ rfl | exact Tm.size_all _ | exact Bd.size_all _ | exact ints_size _ | exact bys_size _ | exact Lt.size_all _) (by first | omega | (simp only [List.length_map, List.length_append, List.length_cons, List.length_nil] <;> omega) | (simp <;> omega))) rfl ?_)
  (refine nx (aA (gN rfl) rfl rfl rfl rfl rfl) rfl ?_)
  show AWp _ _ _ _ _ _ _
  refine AWp.wk ((wk_plain 10 rfl).trans (wk_sub (s' := [(0, .val (.lst (c.map Lt.cv))), (1, .val (.lst (ahead.map by8))), (2, .val (.lst (behind.map by8))), (3, .val (.sc (.int .u16 y))), (9, .val (.lst (Z.map by8))), (10, .val (.lst (Z.map by8)))]) ⟨rfl, rfl, rfl, rfl, rfl, by rw [hZ, List.map_append]; rfl, trivial⟩)) ?_
  -- all of it
  have hg1 := cGet_abs w (Z ++ behind) (fun z hm => by
    rcases List.mem_append.1 hm with hm | hm
    · exact hZw z hm
    · exact hb z hm) (by rw [List.length_append]; omega) ((ahead.map by8).length : Int)
  have e1 : gC (Z ++ behind) ((ahead.map by8).length : Int) = .ok (c.map Lt.strip, (wC c).length) := by
    unfold gC
    rw [if_neg (by rw [List.length_append]; omega), show (((ahead.map by8).length : Nat) : Int).toNat = ahead.length by omega, hZ, List.append_assoc, List.drop_left]
    exact htr.back behind
  rw [e1, List.map_append] at hg1
  refine aS (aR ?_)
  (refine nx (a_bslice0 (gN rfl) rfl rfl rfl rfl rfl rfl rfl rfl) rfl ?_)
  (refine nx (aM (gN rfl) rfl rfl rfl rfl rfl) rfl ?_)
  (refine nx (a_app (gN rfl) rfl rfl rfl rfl rfl rfl rfl rfl rfl rfl rfl rfl rfl rfl rfl (by first | assumption | exact sZ rfl | exact Tm.size_all _ | exact Bd.size_all _ | exact ints_size _ | exact bys_size _ | exact Lt.size_all _) (by first | assumption | exact sZ rfl | exact Tm.size_all _ | exact Bd.size_all _ | exact ints_size _ | exact bys_size _ | exact Lt.size_all _) (by first | omega | (simp only [List.length_map, List.length_append, List.length_cons, List.length_nil] <;> omega) | (simp <;> omega))) rfl ?_)
  (refine nx (aM (gN rfl) rfl rfl rfl rfl rfl) rfl ?_)
  (refine nx (a_app (gN rfl) rfl rfl rfl rfl rfl rfl rfl rfl rfl rfl rfl rfl rfl rfl rfl (by first | assumption | exact sZ rfl | exact Tm.size_all _ | exact Bd.size_all _ | exact ints_size _ | exact bys_size _ | exact Lt.size_all _) (by first | assumption | exact sZ rfl | exact Tm.size_all _ | exact Bd.size_all _ | exact ints_size _ | exact bys_size _ | exact Lt.size_all _) (by first | omega | (simp only [List.length_map, List.length_append, List.length_cons, List.length_nil] <;> omega) | (simp <;> omega))) rfl ?_)
  (refine nx (aM (gN rfl) rfl rfl rfl rfl rfl) rfl ?_)
  (refine nx (a_len (gN rfl) rfl rfl rfl rfl rfl rfl rfl) rfl ?_)
  (refine nx (a_call (gN rfl) rfl rfl rfl rfl rfl (hg1)) rfl ?_)
  (refine nx (aM (gN rfl) rfl rfl rfl rfl rfl) rfl ?_)
  (refine nx (aX (gN rfl) rfl rfl rfl rfl rfl rfl) rfl ?_)
  (refine nx (aX (gN rfl) rfl rfl rfl rfl rfl rfl) rfl ?_)
  (refine nx (aX (gN rfl) rfl rfl rfl rfl rfl rfl) rfl ?_)
  (refine nx (aA (gN rfl) rfl rfl rfl rfl rfl) rfl ?_)
  (refine nx (aA (gN rfl) rfl rfl rfl rfl rfl) rfl ?_)
  (refine nx (aA (gN rfl) rfl rfl rfl rfl rfl) rfl ?_)
  show AWp _ _ _ _ _ _ _
  refine AWp.wk (wk_sub (s' := [(0, .val (.lst (c.map Lt.cv))), (1, .val (.lst (ahead.map by8))), (3, .val (.sc (.int .u16 y))), (9, .val (.lst (Z.map by8))), (10, .val (.lst (Z.map by8))), (11, .val (.lst ((c.map Lt.strip).map Lt.cv))), (12, .val (.i ((Z.map by8).length : Int))), (13, .val (by8 0))]) ⟨rfl, rfl, rfl, rfl, rfl, rfl, ?_, rfl, trivial⟩) ?_
  · show some (AV.val (.i (((((ahead.map by8).length : Int).toNat + (wC c).length : Nat)) : Int))) = _
    rw [show ((ahead.map by8).length : Int).toNat + (wC c).length = (Z.map by8).length by omega]
  -- cut short
  have hne : ((Z.map by8).length : Int) - ((ahead.map by8).length : Int) ≠ 0 := by omega
  obtain ⟨j, hj⟩ : ∃ j : Nat, j = y.toNat % (wC c).length := ⟨_, rfl⟩
  have hjl : j < (wC c).length := by rw [hj]; exact Nat.mod_lt _ hpos
  have hrem : Int.tmod y (((Z.map by8).length : Int) - ((ahead.map by8).length : Int)) = (j : Int) := by
    have : ((Z.map by8).length : Int) - ((ahead.map by8).length : Int) = ((wC c).length : Int) := by omega
    rw [this, hj, Int.tmod_eq_emod_of_nonneg hy.1, Int.natCast_emod, Int.toNat_of_nonneg hy.1]
  refine aS (aR ?_)
  (refine nx (aM (gN rfl) rfl rfl rfl rfl rfl) rfl ?_)
  (refine nx (a_len (gN rfl) rfl rfl rfl rfl rfl rfl rfl) rfl ?_)
  (refine nx (aM (gN rfl) rfl rfl rfl rfl rfl) rfl ?_)
  (refine nx (a_conv (gN rfl) rfl rfl rfl rfl rfl rfl rfl (by first | rfl | (rw [IntKind.wrap_i64]; omega) | assumption)) rfl ?_)
  (refine nx (aM (gN rfl) rfl rfl rfl rfl rfl) rfl ?_)
  (refine nx (a_len (gN rfl) rfl rfl rfl rfl rfl rfl rfl) rfl ?_)
  (refine nx (aM (gN rfl) rfl rfl rfl rfl rfl) rfl ?_)
  (refine nx (a_len (gN rfl) rfl rfl rfl rfl rfl rfl rfl) rfl ?_)
  (refine nx (a_sub (gN rfl) rfl rfl rfl rfl rfl rfl (by first | omega | (simp only [List.length_map, List.length_append, List.length_cons, List.length_nil] <;> omega) | (simp <;> omega))) rfl ?_)
  (refine nx (a_rem (gN rfl) rfl rfl rfl rfl rfl rfl (by first | decide | assumption)) rfl ?_)
  (refine nx (a_add (gN rfl) rfl rfl rfl rfl rfl rfl (by first | omega | (simp only [List.length_map, List.length_append, List.length_cons, List.length_nil] <;> omega) | (simp <;> omega))) rfl ?_)
  (refine nx (aA (gN rfl) rfl rfl rfl rfl rfl) rfl ?_)
  show AWp _ _ _ _ _ _ _
  obtain ⟨K, hK⟩ : ∃ K : Nat, K = ahead.length + j := ⟨_, rfl⟩
  refine AWp.wk (wk_sub (s' := [(0, .val (.lst (c.map Lt.cv))), (1, .val (.lst (ahead.map by8))), (9, .val (.lst (Z.map by8))), (10, .val (.lst (Z.map by8))), (11, .val (.lst ((c.map Lt.strip).map Lt.cv))), (12, .val (.i ((Z.map by8).length : Int))), (13, .val (by8 0)), (14, .val (.i (K : Int)))]) ⟨rfl, rfl, rfl, rfl, rfl, rfl, rfl, ?_, trivial⟩) ?_
  · show some (AV.val (.i (((ahead.map by8).length : Int) + Int.tmod y (((Z.map by8).length : Int) - ((ahead.map by8).length : Int))))) = _
    rw [hrem, show ((ahead.map by8).length : Int) + (j : Int) = (K : Int) by omega]
  have hg2 := cGet_abs w (Z.take K) (fun z hm => hZw z (List.mem_of_mem_take hm)) (by rw [List.length_take]; omega) ((ahead.map by8).length : Int)
  have e2 : gC (Z.take K) ((ahead.map by8).length : Int) = .error 10 := by
    unfold gC
    rw [if_neg (by rw [List.length_take]; omega), show (((ahead.map by8).length : Nat) : Int).toNat = ahead.length by omega, hZ, take_app_ge (by omega), List.drop_left, show K - ahead.length = j by omega]
    exact htr.cut j hjl
  rw [e2, List.map_take] at hg2
  refine aS (aR ?_)
  (refine nx (aM (gN rfl) rfl rfl rfl rfl rfl) rfl ?_)
  (refine nx (aM (gN rfl) rfl rfl rfl rfl rfl) rfl ?_)
  (refine nx (a_upto (gN rfl) rfl rfl rfl rfl rfl rfl rfl rfl rfl (by omega) (by first | assumption | exact sZ rfl | exact Tm.size_all _ | exact Bd.size_all _ | exact ints_size _ | exact bys_size _ | exact Lt.size_all _)) rfl ?_)
  (refine nx (aM (gN rfl) rfl rfl rfl rfl rfl) rfl ?_)
  (refine nx (a_len (gN rfl) rfl rfl rfl rfl rfl rfl rfl) rfl ?_)
  (refine nx (a_call (gN rfl) rfl rfl rfl rfl rfl (hg2)) rfl ?_)
  (refine nx (aM (gN rfl) rfl rfl rfl rfl rfl) rfl ?_)
  (refine nx (aX (gN rfl) rfl rfl rfl rfl rfl rfl) rfl ?_)
  (refine nx (aX (gN rfl) rfl rfl rfl rfl rfl rfl) rfl ?_)
  (refine nx (aX (gN rfl) rfl rfl rfl rfl rfl rfl) rfl ?_)
  (refine nx (aA (gN rfl) rfl rfl rfl rfl rfl) rfl ?_)
  (refine nx (aA (gN rfl) rfl rfl rfl rfl rfl) rfl ?_)
  (refine nx (aA (gN rfl) rfl rfl rfl rfl rfl) rfl ?_)
  show AWp _ _ _ _ _ _ _
  have hsm := refSameY_abs w Z Z (by omega)
  rw [decide_eq_true rfl] at hsm
  have hto := to11_abs w (c.map Lt.strip) (by rw [List.length_map]; omega) (fun l hl => by
    obtain ⟨x, hx, rfl⟩ := List.mem_map.1 hl
    exact ⟨Tm.strip_ok (hok x hx).1, Tm.strip_ok (hok x hx).2⟩)
  have hst : (c.map Lt.strip).map Lt.strip = c.map Lt.strip := by
    rw [List.map_map]
    exact List.map_congr_left fun l _ => by
      show (⟨l.neg, l.a.strip.strip, l.b.strip.strip⟩ : Lt) = ⟨l.neg, l.a.strip, l.b.strip⟩
      rw [Tm.strip_strip, Tm.strip_strip]
  rw [hst] at hto
  have hsc := same11_abs w (c.map Lt.strip) c (by rw [List.length_map]; omega) (fun l hl => by
    obtain ⟨x, hx, rfl⟩ := List.mem_map.1 hl
    exact ⟨Tm.strip_ok (hok x hx).1, Tm.strip_ok (hok x hx).2⟩) hok
  rw [sameC_iff.2 hst] at hsc
  refine aS (aR ?_)
  (refine nx (aM (gN rfl) rfl rfl rfl rfl rfl) rfl ?_)
  (refine nx (aM (gN rfl) rfl rfl rfl rfl rfl) rfl ?_)
  (refine nx (a_call (gN rfl) rfl rfl rfl rfl rfl (hsm)) rfl ?_)
  (refine nx (aM (gN rfl) rfl rfl rfl rfl rfl) rfl ?_)
  (refine nx (aM (gd_on rfl rfl rfl rfl (by first | rfl | assumption | (simp; done))) rfl rfl rfl rfl rfl) rfl ?_)
  (refine nx (a_conv (gd_on rfl rfl rfl rfl (by first | rfl | assumption | (simp; done))) rfl rfl rfl rfl rfl rfl rfl (by first | rfl | (rw [IntKind.wrap_i64]; omega) | assumption)) rfl ?_)
  (refine nx (a_eql (gd_on rfl rfl rfl rfl (by first | rfl | assumption | (simp; done))) rfl rfl rfl rfl rfl rfl) rfl ?_)
  (refine ⟨_, _, _, aPt (gN rfl) rfl rfl rfl rfl rfl ?hb rfl, rfl, ?_⟩; case hb => (first | rfl | assumption | (simp; done)))
  (refine nx (aM (gN rfl) rfl rfl rfl rfl rfl) rfl ?_)
  (refine nx (aM (gd_on rfl rfl rfl rfl (by first | rfl | assumption | (simp; done))) rfl rfl rfl rfl rfl) rfl ?_)
  (refine nx (aM (gd_on rfl rfl rfl rfl (by first | rfl | assumption | (simp; done))) rfl rfl rfl rfl rfl) rfl ?_)
  (refine nx (a_len (gd_on rfl rfl rfl rfl (by first | rfl | assumption | (simp; done))) rfl rfl rfl rfl rfl rfl rfl) rfl ?_)
  (refine nx (a_eql (gd_on rfl rfl rfl rfl (by first | rfl | assumption | (simp; done))) rfl rfl rfl rfl rfl rfl) rfl ?_)
  (refine ⟨_, _, _, aPt (gN rfl) rfl rfl rfl rfl rfl ?hb rfl, rfl, ?_⟩; case hb => (first | rfl | assumption | (simp; done)))
  (refine nx (aM (gN rfl) rfl rfl rfl rfl rfl) rfl ?_)
  (refine nx (aM (gd_on rfl rfl rfl rfl (by first | rfl | assumption | (simp; done))) rfl rfl rfl rfl rfl) rfl ?_)
  (refine nx (a_call (gd_on rfl rfl rfl rfl (by first | rfl | assumption | (simp; done))) rfl rfl rfl rfl rfl (hto)) rfl ?_)
  (refine nx (aM (gd_on rfl rfl rfl rfl (by first | rfl | assumption | (simp; done))) rfl rfl rfl rfl rfl) rfl ?_)
  (refine nx (a_call (gd_on rfl rfl rfl rfl (by first | rfl | assumption | (simp; done))) rfl rfl rfl rfl rfl (hsc)) rfl ?_)
  (refine ⟨_, _, _, aPt (gN rfl) rfl rfl rfl rfl rfl ?hb rfl, rfl, ?_⟩; case hb => (first | rfl | assumption | (simp; done)))
  (refine nx (aM (gN rfl) rfl rfl rfl rfl rfl) rfl ?_)
  (refine nx (aM (gd_on rfl rfl rfl rfl (by first | rfl | assumption | (simp; done))) rfl rfl rfl rfl rfl) rfl ?_)
  (refine nx (a_conv (gd_on rfl rfl rfl rfl (by first | rfl | assumption | (simp; done))) rfl rfl rfl rfl rfl rfl rfl (by first | rfl | (rw [IntKind.wrap_i64]; omega) | assumption)) rfl ?_)
  (refine nx (a_eql (gd_on rfl rfl rfl rfl (by first | rfl | assumption | (simp; done))) rfl rfl rfl rfl rfl rfl) rfl ?_)
  (refine ⟨_, _, _, aPt (gN rfl) rfl rfl rfl rfl rfl ?hb rfl, rfl, ?_⟩; case hb => (first | rfl | assumption | (simp; done)))
  (refine nx (aA (gN rfl) rfl rfl rfl rfl rfl) rfl ?_)
  show AWp _ _ _ _ _ _ _
  exact aT (And.intro (.inr rfl) rfl)
theorem shp_bool {n : Nat} {c : CV} (h : Shp Try.prog n 4 c) : ∃ b, c = .b b := by
  cases n with
  | zero => exact h.elim
  | succ n =>
    rw [Shp, Try.underlying4] at h
    exact h
theorem shp_bytes {n : Nat} {c : CV} (h : Shp Try.prog n 23 c) : ∃ l : List Int, c = .lst (l.map by8) ∧ wfB l := by
  cases n with
  | zero => exact h.elim
  | succ n =>
    rw [Shp, Try.underlying23] at h
    obtain ⟨l, rfl, hl⟩ := h
    obtain ⟨m, h1, h2⟩ := list_of by8 (fun z => 0 ≤ z ∧ z ≤ 255) (l := l) (fun x hx => by
      have hx := hl x hx
      cases n with
      | zero => exact hx.elim
      | succ n =>
        have hx : Shp Try.prog (n + 1) 5 x := hx
        rw [Shp, Try.underlying5] at hx
        obtain ⟨z, rfl, hz⟩ := hx
        exact ⟨z, rfl, by simpa [Lit.wf, IntKind.min, IntKind.max, IntKind.signed, IntKind.bits] using hz⟩)
    exact ⟨m, by rw [h1], h2⟩
theorem shp_lits {n : Nat} {c : CV} (h : Shp Try.prog n 22 c) : ∃ l : List Lt, c = .lst (l.map Lt.cv) ∧ okC l := by
  cases n with
  | zero => exact h.elim
  | succ n =>
    rw [Shp, Try.underlying22] at h
    obtain ⟨l, rfl, hl⟩ := h
    obtain ⟨m, h1, h2⟩ := list_of Lt.cv (fun l => l.a.rng ∧ l.b.rng) (l := l) (fun x hx => by
      have hx := hl x hx
      cases n with
      | zero => exact hx.elim
      | succ n =>
        have hx : Shp Try.prog (n + 1) 68 x := hx
        rw [Shp, Try.underlying68] at hx
        obtain ⟨l, rfl, hl, hf⟩ := hx
        match l, hl with
        | [x, y, z], _ =>
          obtain ⟨b, rfl⟩ := shp_bool (hf 0 _ x rfl rfl)
          obtain ⟨t, rfl, ht⟩ := shp_tm n (hf 1 _ y rfl rfl)
          obtain ⟨u, rfl, hu⟩ := shp_tm n (hf 2 _ z rfl rfl)
          exact ⟨⟨b, t, u⟩, rfl, ht, hu⟩)
    exact ⟨m, by rw [h1], h2⟩
end Go.Proofs.Ytiammidklcjelaa

