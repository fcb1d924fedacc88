/-
  OrFns2 ClLen TmAlive TmAb6 ClTaut OrFns3 KbRef KbRef2 AbKind CodeMath CodeLen CodePut CodePutMore RefSame CodeRef CodeAlive CodeReadMath CodeRead CodeUint CodeText CodeBackMath ClBy ClCode ClPut ClGet ClGet2 ClA ClB
-/
import Derived.Test.YtglbohajmccehaaMg4
import Derived.Test.YtglbohajmccehaaMg2
import Derived.Test.YtglbohajmccehaaMg3
import Derived.WalkKit
import Derived.Test.YtglbohajmccehaaChecked
import Derived.WalkLawsBesides
import Derived.WalkSpells
import Derived.Test.YtglbohajmccehaaMg1
import Derived.Laws.BitsAllLaws
import Derived.Deep.QuietTactic
import Derived.BigQuiet
import Derived.Laws.BytesArg
namespace Go.Proofs.Ytglbohajmccehaa
open Go.RowKit
set_option linter.unusedVariables false
set_option linter.unusedSimpArgs false
set_option maxRecDepth 100000
def Tm.fit (t : Tm) : Prop := t.rng ∧ t.ok ∧ t.size ≤ 90000000000
-- 
theorem oBig_abs (W : World) (t u : Tm) (ht : t.fit) (hu : u.fit) : AFun Try.prog W 70 [u.cw, .ptr t.cw] (.val (.b (decide (kb u t = 1)))) := by
  refine afun_of (rs := [.b (decide (kb u t = 1))]) Try.func70 Try.ntmps70 rfl rfl rfl rfl ?_
  intro w U hW
  refine aS (aR ?_)
  (refine nx (a_box (gN rfl) rfl rfl rfl rfl rfl) rfl ?_)
  (refine nx (aA (gN rfl) rfl rfl rfl rfl rfl) rfl ?_)
  show AWp _ _ _ _ _ _ _
  refine aS (aR ?_)
  (refine nx (aL (gN rfl) rfl rfl rfl rfl rfl rfl rfl rfl rfl rfl rfl rfl) rfl ?_)
  (refine nx (a_load_ptr (gN rfl) rfl rfl rfl rfl rfl rfl rfl rfl rfl) rfl ?_)
  (refine nx (a_call (gN rfl) rfl rfl rfl rfl rfl (kGreater_abs w u t hu.1 hu.2.1 (Nat.le_trans hu.2.2 (by omega)) ht.1 ht.2.1 (Nat.le_trans ht.2.2 (by omega)))) rfl ?_)
  (refine nx (aA (gN rfl) rfl rfl rfl rfl rfl) rfl ?_)
  show AWp _ _ _ _ _ _ _
  exact aT (And.intro (.inr rfl) rfl)
-- 
theorem oLess_abs (W : World) (t : Tm) (l : List Tm) (ht : t.fit) (hl : ∀ u ∈ l, u.fit) (hn : l.length ≤ 100000) : AFun Try.prog W 54 [t.cw, .lst (l.map Tm.cv)] (.val (.b (l.any fun u => decide (kb u t = 1)))) := by
  refine afun_of (rs := [.b (l.any fun u => decide (kb u t = 1))]) Try.func54 Try.ntmps54 rfl rfl rfl rfl ?_
  intro w U hW
  refine aS (aR ?_)
  (refine nx (a_box (gN rfl) rfl rfl rfl rfl rfl) rfl ?_)
  (refine nx (aA (gN rfl) rfl rfl rfl rfl rfl) rfl ?_)
  show AWp _ _ _ _ _ _ _
  refine AWp.wk (wk_freeze 2 rfl rfl rfl (s' := [(1, .val (.lst (l.map Tm.cv)))]) ⟨rfl, trivial⟩ rfl rfl rfl) ?_
  refine aS (aR ?_)
  (refine nx (aM (gN rfl) rfl rfl rfl rfl rfl) rfl ?_)
  (refine nx (a_mkfunc (gN rfl) rfl rfl rfl rfl rfl rfl) rfl ?_)
  (refine nx (a_call (gN rfl) rfl rfl rfl rfl rfl (conT_abs w (fun u => decide (kb u t = 1)) (.fn 70 0 [.ptr t.cw]) l (by omega) (fun w x hx => .inl ⟨_, _, _, rfl, oBig_abs w t x ht (hl x hx)⟩))) rfl ?_)
  (refine nx (aA (gN rfl) rfl rfl rfl rfl rfl) rfl ?_)
  show AWp _ _ _ _ _ _ _
  exact aT (And.intro (.inr rfl) rfl)
-- 
theorem oBey_abs (W : World) (t : Tm) (l : List Tm) (ht : t.fit) (hl : ∀ u ∈ l, u.fit) (hn : l.length ≤ 100000) : AFun Try.prog W 53 [t.cw, .ptr (.lst (l.map Tm.cv))] (.val (.b (!(l.any fun u => decide (kb u t = 1))))) := by
  refine afun_of (rs := [.b (!(l.any fun u => decide (kb u t = 1)))]) Try.func53 Try.ntmps53 rfl rfl rfl rfl ?_
  intro w U hW
  refine aS (aR ?_)
  (refine nx (a_box (gN rfl) rfl rfl rfl rfl rfl) rfl ?_)
  (refine nx (aA (gN rfl) rfl rfl rfl rfl rfl) rfl ?_)
  show AWp _ _ _ _ _ _ _
  refine aS (aR ?_)
  (refine nx (aL (gN rfl) rfl rfl rfl rfl rfl rfl rfl rfl rfl rfl rfl rfl) rfl ?_)
  (refine nx (a_load_ptr (gN rfl) rfl rfl rfl rfl rfl rfl rfl rfl rfl) rfl ?_)
  (refine nx (a_call (gN rfl) rfl rfl rfl rfl rfl (oLess_abs w t l ht hl hn)) rfl ?_)
  (refine nx (a_not (gN rfl) rfl rfl rfl rfl rfl) rfl ?_)
  (refine nx (aA (gN rfl) rfl rfl rfl rfl rfl) rfl ?_)
  show AWp _ _ _ _ _ _ _
  exact aT (And.intro (.inr rfl) rfl)
-- 
theorem oOut_abs (a b : List Tm) (ha : ∀ t ∈ a, t.fit) (hb : ∀ t ∈ b, t.fit) (hal : a.length ≤ 100000) (hbl : b.length ≤ 100000) :
    AFunO Try.prog 36 [rwT 400001 a 0, rwT 400002 b 0] [.sl 400001 0 a.length 2, .sl 400002 0 b.length 2] (.val (.b (mulB a b))) [rwT 400001 (cutN a.length a b).1 (a.length - (cutN a.length a b).1.length), rwT 400002 (cutN a.length a b).2 (b.length - (cutN a.length a b).2.length)] := by
  have hC := oCut_abs a b (fun t h => (ha t h).1) (fun t h => (hb t h).1) hal hbl
  have hcl := cut_len a.length a b
  have hcm := cut_mem a.length a b
  have hmB : mulB a b = outB (cutN a.length a b).1 (cutN a.length a b).2 := rfl
  rw [hmB]
  obtain ⟨X, Y, hXY⟩ : ∃ X Y, cutN a.length a b = (X, Y) := ⟨_, _, rfl⟩
  rw [hXY] at hC hcl hcm ⊢
  simp only at hC hcl hcm ⊢
  have hX : ∀ t ∈ X, t.fit := fun t h => ha t (hcm.1 t h)
  have hY : ∀ t ∈ Y, t.fit := fun t h => hb t (hcm.2 t h)
  refine afunO_of Try.func36 Try.ntmps36 rfl rfl rfl rfl rfl rfl ?_
  intro w U hU
  refine AWp.hdl 20 400001 rfl rfl rfl fun v1 => ?_
  refine AWp.hdl 21 400002 rfl rfl rfl fun v2 => ?_
  refine AWp.wk ((wk_slsc 0 400001 20 rfl rfl rfl).trans ((wk_slsc 1 400002 21 rfl rfl rfl).trans (wk_sub (s' := [(20, .hdl v1 400001), (21, .hdl v2 400002), (0, .val (.sc (cutV v1 a.length))), (1, .val (.sc (cutV v2 b.length))), rwT 400001 a 0, rwT 400002 b 0]) ⟨rfl, rfl, rfl, rfl, rfl, rfl, trivial⟩))) ?_
  refine aS (aR ?_)
  (refine nx (a_box (gN rfl) rfl rfl rfl rfl rfl) rfl ?_)
  (refine nx (aA (gN rfl) rfl rfl rfl rfl rfl) rfl ?_)
  show AWp _ _ _ _ _ _ _
  refine aS (aR ?_)
  (refine nx (aL (gN rfl) rfl rfl rfl rfl rfl rfl rfl rfl rfl rfl rfl rfl) rfl ?_)
  (refine nx (aM (gN rfl) rfl rfl rfl rfl rfl) rfl ?_)
  (refine nx (a_callH 20 21 (gN rfl) rfl rfl rfl rfl (hC) rfl rfl rfl rfl (by repeat (first | exact trivial | refine ⟨rfl, ?_⟩)) (by first | rfl | kernel_rfl) (by first | rfl | kernel_rfl) (by first | rfl | kernel_rfl) (by first | rfl | kernel_rfl) (hnb_of (by first | rfl | kernel_rfl))) rfl ?_)
  (refine nx (aM (gN rfl) rfl rfl rfl rfl rfl) rfl ?_)
  (refine nx (aX (gN rfl) rfl rfl rfl rfl rfl rfl) rfl ?_)
  (refine nx (aX (gN rfl) rfl rfl rfl rfl rfl rfl) rfl ?_)
  (refine nx (aSt (gN rfl) rfl rfl rfl rfl rfl rfl rfl rfl rfl rfl) rfl ?_)
  (refine nx (aA (gN rfl) rfl rfl rfl rfl rfl) rfl ?_)
  show AWp _ _ _ _ _ _ _
  obtain ⟨kx, hkx⟩ : ∃ kx, kx = a.length - X.length := ⟨_, rfl⟩
  obtain ⟨ky, hky⟩ : ∃ ky, ky = b.length - Y.length := ⟨_, rfl⟩
  rw [← hkx, ← hky]
  refine AWp.wk (wk_sub (s' := [(20, .hdl v1 400001), (21, .hdl v2 400002), (1, .val (.sc (cutV v2 Y.length))), (2, .bp 2 0 []), (100002, .bx (.sc (cutV v1 X.length))), rwT 400001 X kx, rwT 400002 Y ky]) ⟨rfl, rfl, rfl, rfl, rfl, rfl, rfl, trivial⟩) ?_
  refine awp_peek (R := fun e => e = .normal ∨ e = .ret) [(1, .lst (Y.map Tm.cv)), (2, .ptr (.lst (X.map Tm.cv)))] 4 (.bool (outB X Y)) [rwT 400001 X kx, rwT 400002 Y ky] ?_ ?_ ⟨rfl, rfl, trivial⟩ rfl rfl rfl (fun e he => ⟨he, _, Wk.refl _, rfl, rfl, rfl, trivial⟩)
  · intro a w D hv h q hq
    obtain ⟨_, _, hr1, hx1⟩ : ∃ u, a.tmps[20]? = some u ∧ RN 400001 ∧ hv 400001 = v1 := h.slot 20 _ rfl (by omega)
    obtain ⟨_, _, hr2, hx2⟩ : ∃ u, a.tmps[21]? = some u ∧ RN 400002 ∧ hv 400002 = v2 := h.slot 21 _ rfl (by omega)
    have w1 := h.view (n := 400001) (e := 31) (z := 2) (l := (X ++ List.replicate kx zTm).map Tm.cv) (len := X.length) rfl hr1 (by simp)
    have w2 := h.view (n := 400002) (e := 31) (z := 2) (l := (Y ++ List.replicate ky zTm).map Tm.cv) (len := Y.length) rfl hr2 (by simp)
    rw [take_cv, hx1] at w1
    rw [take_cv, hx2] at w2
    rcases List.mem_cons.1 hq with rfl | hq
    · obtain ⟨u, g1, g2⟩ := h.slot 1 _ rfl (by omega)
      obtain ⟨rfl, _⟩ := vrep_sc.1 g2.1
      exact ⟨_, g1, w2⟩
    · rcases List.mem_cons.1 hq with rfl | hq
      · exact h.viewBox 2 rfl rfl (by omega) (by show (1 : Nat) ≠ 2; decide) w1
      · cases hq
  · intro w
    have hW : Hw w w topX := ⟨fun _ => rfl, fun _ h => h⟩
    refine aS (aR ?_)
    (refine nx (a_mkfunc (gN rfl) rfl rfl rfl rfl rfl rfl) rfl ?_)
    (refine nx (aA (gN rfl) rfl rfl rfl rfl rfl) rfl ?_)
    show AWp _ _ _ _ _ _ _
    have hcon := conT_abs w (fun t => !(X.any fun u => decide (kb u t = 1))) (.fn 53 0 [.ptr (.lst (X.map Tm.cv))]) Y (by omega) (fun w x hx => .inl ⟨_, _, _, rfl, oBey_abs w x X (hY x hx) hX (by omega)⟩)
    by_cases hX0 : 0 < X.length
    · have g : decide (((X.map Tm.cv).length : Int) > 0) = true := by simp; omega
      have e : outB X Y = !(Y.any fun t => !(X.any fun u => decide (kb u t = 1))) := by unfold outB; rw [decide_eq_true hX0, Bool.true_and]
      rw [e]
      refine aS (aR ?_)
      (refine nx (a_load_ptr (gN rfl) rfl rfl rfl rfl rfl rfl rfl rfl rfl) rfl ?_)
      (refine nx (a_len (gN rfl) rfl rfl rfl rfl rfl rfl rfl) rfl ?_)
      (refine nx (a_gtr (gN rfl) rfl rfl rfl rfl rfl rfl) rfl ?_)
      (refine nx (aM (gN rfl) rfl rfl rfl rfl rfl) rfl ?_)
      (refine nx (aM (gd_on rfl rfl rfl rfl (by first | rfl | assumption | (simp; done))) rfl rfl rfl rfl rfl) rfl ?_)
      (refine nx (aM (gd_on rfl rfl rfl rfl (by first | rfl | assumption | (simp; done))) rfl rfl rfl rfl rfl) rfl ?_)
      (refine nx (a_call (gd_on rfl rfl rfl rfl (by first | rfl | assumption | (simp; done))) rfl rfl rfl rfl rfl (hcon)) rfl ?_)
      (refine nx (a_not (gd_on rfl rfl rfl rfl (by first | rfl | assumption | (simp; done))) rfl rfl rfl rfl rfl) rfl ?_)
      (refine ⟨_, _, _, aPt (gN rfl) rfl rfl rfl rfl rfl ?hb rfl, rfl, ?_⟩; case hb => (first | rfl | assumption | (simp; done)))
      (refine nx (aA (gN rfl) rfl rfl rfl rfl rfl) rfl ?_)
      show AWp _ _ _ _ _ _ _
      exact aT ⟨.inr rfl, rfl⟩
    · have g : decide (((X.map Tm.cv).length : Int) > 0) = false := decide_eq_false (by rw [List.length_map]; omega)
      have e : outB X Y = false := by unfold outB; rw [decide_eq_false hX0, Bool.false_and]
      rw [e]
      refine aS (aR ?_)
      (refine nx (a_load_ptr (gN rfl) rfl rfl rfl rfl rfl rfl rfl rfl rfl) rfl ?_)
      (refine nx (a_len (gN rfl) rfl rfl rfl rfl rfl rfl rfl) rfl ?_)
      (refine nx (a_gtr (gN rfl) rfl rfl rfl rfl rfl rfl) rfl ?_)
      (refine nx (aM (gN rfl) rfl rfl rfl rfl rfl) rfl ?_)
      (refine ⟨_, _, _, a_off (go_off rfl rfl rfl rfl (by first | rfl | assumption | (simp; done) | (simp [*]; done))) rfl rfl rfl, rfl, ?_⟩)
      (refine ⟨_, _, _, a_off (go_off rfl rfl rfl rfl (by first | rfl | assumption | (simp; done) | (simp [*]; done))) rfl rfl rfl, rfl, ?_⟩)
      (refine ⟨_, _, _, a_off (go_off rfl rfl rfl rfl (by first | rfl | assumption | (simp; done) | (simp [*]; done))) rfl rfl rfl, rfl, ?_⟩)
      (refine ⟨_, _, _, a_off (go_off rfl rfl rfl rfl (by first | rfl | assumption | (simp; done) | (simp [*]; done))) rfl rfl rfl, rfl, ?_⟩)
      (refine ⟨_, _, _, aPf (gN rfl) rfl rfl rfl rfl rfl ?hb rfl, rfl, ?_⟩; case hb => (first | rfl | assumption | (simp; done)))
      (refine nx (aA (gN rfl) rfl rfl rfl rfl rfl) rfl ?_)
      show AWp _ _ _ _ _ _ _
      exact aT ⟨.inr rfl, rfl⟩
def tmsL (l : Lt) : List Tm := if l.neg then [l.a, l.a, l.b, l.b] else [l.a, l.b]
theorem tmsL_mem {l : Lt} {p : Tm → Prop} (h : p l.a ∧ p l.b) : ∀ t ∈ tmsL l, p t := by
  intro t ht
  unfold tmsL at ht
  split at ht <;> simp at ht <;> rcases ht with rfl | rfl
  all_goals first | exact h.1 | exact h.2
theorem tmsL_len (l : Lt) : (tmsL l).length ≤ 4 := by unfold tmsL; split <;> simp
-- 
theorem oTerms1_abs (l : Lt) : AFunO Try.prog 34 [] [.val l.cw] (.sl 400001 0 (tmsL l).length 2) [rwT 400001 (tmsL l) 0] := by
  refine afunO_of Try.func34 Try.ntmps34 rfl rfl rfl rfl rfl rfl ?_
  intro w U hU
  have hUf : U.f 400001 = none := by
    cases e : U.f 400001 with
    | none => rfl
    | some v => have := hU _ v e; cases this
  have e1 : l.a.cw = l.a.cv := (Tm.cv_eq _).symm
  have e2 : l.b.cw = l.b.cv := (Tm.cv_eq _).symm
  refine aS (aR ?_)
  (refine nx (a_box (gN rfl) rfl rfl rfl rfl rfl) rfl ?_)
  (refine nx (aA (gN rfl) rfl rfl rfl rfl rfl) rfl ?_)
  show AWp _ _ _ _ _ _ _
  refine aS (aS (aR ?_))
  (refine nx (aF (gN rfl) rfl rfl rfl rfl rfl rfl rfl rfl rfl) rfl ?_)
  (refine nx (aLb (gN rfl) rfl rfl rfl rfl rfl rfl rfl rfl rfl rfl rfl rfl) rfl ?_)
  show AWp _ _ _ _ _ _ _
  refine aC rfl (fun hc => ?_) (fun hc => ?_)
  · have e : tmsL l = [l.a, l.a, l.b, l.b] := by unfold tmsL; rw [if_pos hc]
    rw [e]
    refine aS (aR ?_)
    (refine nx (aF (gN rfl) rfl rfl rfl rfl rfl rfl rfl rfl rfl) rfl ?_)
    (refine nx (aLb (gN rfl) rfl rfl rfl rfl rfl rfl rfl rfl rfl rfl rfl rfl) rfl ?_)
    (refine nx (aF (gN rfl) rfl rfl rfl rfl rfl rfl rfl rfl rfl) rfl ?_)
    (refine nx (aLb (gN rfl) rfl rfl rfl rfl rfl rfl rfl rfl rfl rfl rfl rfl) rfl ?_)
    (refine nx (aF (gN rfl) rfl rfl rfl rfl rfl rfl rfl rfl rfl) rfl ?_)
    (refine nx (aLb (gN rfl) rfl rfl rfl rfl rfl rfl rfl rfl rfl rfl rfl rfl) rfl ?_)
    (refine nx (aF (gN rfl) rfl rfl rfl rfl rfl rfl rfl rfl rfl) rfl ?_)
    (refine nx (aLb (gN rfl) rfl rfl rfl rfl rfl rfl rfl rfl rfl rfl rfl rfl) rfl ?_)
    (refine nx (a_bsliceM 250007 (gN rfl) rfl rfl rfl rfl rfl rfl rfl rfl rfl rfl rfl rfl rfl rfl rfl) rfl ?_)
    (refine nx (aA (gN rfl) rfl rfl rfl rfl rfl) rfl ?_)
    show AWp _ _ _ _ _ _ _
    refine aT ⟨.inr rfl, _, (wk_sub (s' := [(2, .sl 250007 0 4 2), (250007, .mrow 31 2 (([l.a, l.a, l.b, l.b] ++ List.replicate 0 zTm).map Tm.cv))]) ⟨rfl, ?_, trivial⟩).trans (wk_renF 250007 400001 rfl rfl hUf rfl rfl rfl), rfl, rfl, trivial⟩
    show some (AV.mrow _ _ _) = some (AV.mrow _ _ _)
    simp only [List.replicate_zero, List.append_nil, List.map_cons, List.map_nil, Tm.cv_eq]
    rfl
  · have e : tmsL l = [l.a, l.b] := by unfold tmsL; rw [if_neg (by rw [hc]; decide)]
    rw [e]
    refine aK ?_
    show AWp _ _ _ _ _ _ _
    refine aS (aR ?_)
    (refine nx (aF (gN rfl) rfl rfl rfl rfl rfl rfl rfl rfl rfl) rfl ?_)
    (refine nx (aLb (gN rfl) rfl rfl rfl rfl rfl rfl rfl rfl rfl rfl rfl rfl) rfl ?_)
    (refine nx (aF (gN rfl) rfl rfl rfl rfl rfl rfl rfl rfl rfl) rfl ?_)
    (refine nx (aLb (gN rfl) rfl rfl rfl rfl rfl rfl rfl rfl rfl rfl rfl rfl) rfl ?_)
    (refine nx (a_bsliceM 250007 (gN rfl) rfl rfl rfl rfl rfl rfl rfl rfl rfl rfl rfl rfl rfl rfl rfl) rfl ?_)
    (refine nx (aA (gN rfl) rfl rfl rfl rfl rfl) rfl ?_)
    show AWp _ _ _ _ _ _ _
    refine aT ⟨.inr rfl, _, (wk_sub (s' := [(2, .sl 250007 0 2 2), (250007, .mrow 31 2 (([l.a, l.b] ++ List.replicate 0 zTm).map Tm.cv))]) ⟨rfl, ?_, trivial⟩).trans (wk_renF 250007 400001 rfl rfl hUf rfl rfl rfl), rfl, rfl, trivial⟩
    show some (AV.mrow _ _ _) = some (AV.mrow _ _ _)
    simp only [List.replicate_zero, List.append_nil, List.map_cons, List.map_nil, Tm.cv_eq]
    rfl
-- 
theorem oTerms2_abs (l : Lt) : AFunO Try.prog 34 [] [.val l.cw] (.sl 400002 0 (tmsL l).length 2) [rwT 400002 (tmsL l) 0] := by
  refine afunO_of Try.func34 Try.ntmps34 rfl rfl rfl rfl rfl rfl ?_
  intro w U hU
  have hUf : U.f 400002 = none := by
    cases e : U.f 400002 with
    | none => rfl
    | some v => have := hU _ v e; cases this
  have e1 : l.a.cw = l.a.cv := (Tm.cv_eq _).symm
  have e2 : l.b.cw = l.b.cv := (Tm.cv_eq _).symm
  refine aS (aR ?_)
  (refine nx (a_box (gN rfl) rfl rfl rfl rfl rfl) rfl ?_)
  (refine nx (aA (gN rfl) rfl rfl rfl rfl rfl) rfl ?_)
  show AWp _ _ _ _ _ _ _
  refine aS (aS (aR ?_))
  (refine nx (aF (gN rfl) rfl rfl rfl rfl rfl rfl rfl rfl rfl) rfl ?_)
  (refine nx (aLb (gN rfl) rfl rfl rfl rfl rfl rfl rfl rfl rfl rfl rfl rfl) rfl ?_)
  show AWp _ _ _ _ _ _ _
  refine aC rfl (fun hc => ?_) (fun hc => ?_)
  · have e : tmsL l = [l.a, l.a, l.b, l.b] := by unfold tmsL; rw [if_pos hc]
    rw [e]
    refine aS (aR ?_)
    (refine nx (aF (gN rfl) rfl rfl rfl rfl rfl rfl rfl rfl rfl) rfl ?_)
    (refine nx (aLb (gN rfl) rfl rfl rfl rfl rfl rfl rfl rfl rfl rfl rfl rfl) rfl ?_)
    (refine nx (aF (gN rfl) rfl rfl rfl rfl rfl rfl rfl rfl rfl) rfl ?_)
    (refine nx (aLb (gN rfl) rfl rfl rfl rfl rfl rfl rfl rfl rfl rfl rfl rfl) rfl ?_)
    (refine nx (aF (gN rfl) rfl rfl rfl rfl rfl rfl rfl rfl rfl) rfl ?_)
    (refine nx (aLb (gN rfl) rfl rfl rfl rfl rfl rfl rfl rfl rfl rfl rfl rfl) rfl ?_)
    (refine nx (aF (gN rfl) rfl rfl rfl rfl rfl rfl rfl rfl rfl) rfl ?_)
    (refine nx (aLb (gN rfl) rfl rfl rfl rfl rfl rfl rfl rfl rfl rfl rfl rfl) rfl ?_)
    (refine nx (a_bsliceM 250007 (gN rfl) rfl rfl rfl rfl rfl rfl rfl rfl rfl rfl rfl rfl rfl rfl rfl) rfl ?_)
    (refine nx (aA (gN rfl) rfl rfl rfl rfl rfl) rfl ?_)
    show AWp _ _ _ _ _ _ _
    refine aT ⟨.inr rfl, _, (wk_sub (s' := [(2, .sl 250007 0 4 2), (250007, .mrow 31 2 (([l.a, l.a, l.b, l.b] ++ List.replicate 0 zTm).map Tm.cv))]) ⟨rfl, ?_, trivial⟩).trans (wk_renF 250007 400002 rfl rfl hUf rfl rfl rfl), rfl, rfl, trivial⟩
    show some (AV.mrow _ _ _) = some (AV.mrow _ _ _)
    simp only [List.replicate_zero, List.append_nil, List.map_cons, List.map_nil, Tm.cv_eq]
    rfl
  · have e : tmsL l = [l.a, l.b] := by unfold tmsL; rw [if_neg (by rw [hc]; decide)]
    rw [e]
    refine aK ?_
    show AWp _ _ _ _ _ _ _
    refine aS (aR ?_)
    (refine nx (aF (gN rfl) rfl rfl rfl rfl rfl rfl rfl rfl rfl) rfl ?_)
    (refine nx (aLb (gN rfl) rfl rfl rfl rfl rfl rfl rfl rfl rfl rfl rfl rfl) rfl ?_)
    (refine nx (aF (gN rfl) rfl rfl rfl rfl rfl rfl rfl rfl rfl) rfl ?_)
    (refine nx (aLb (gN rfl) rfl rfl rfl rfl rfl rfl rfl rfl rfl rfl rfl rfl) rfl ?_)
    (refine nx (a_bsliceM 250007 (gN rfl) rfl rfl rfl rfl rfl rfl rfl rfl rfl rfl rfl rfl rfl rfl rfl) rfl ?_)
    (refine nx (aA (gN rfl) rfl rfl rfl rfl rfl) rfl ?_)
    show AWp _ _ _ _ _ _ _
    refine aT ⟨.inr rfl, _, (wk_sub (s' := [(2, .sl 250007 0 2 2), (250007, .mrow 31 2 (([l.a, l.b] ++ List.replicate 0 zTm).map Tm.cv))]) ⟨rfl, ?_, trivial⟩).trans (wk_renF 250007 400002 rfl rfl hUf rfl rfl rfl), rfl, rfl, trivial⟩
    show some (AV.mrow _ _ _) = some (AV.mrow _ _ _)
    simp only [List.replicate_zero, List.append_nil, List.map_cons, List.map_nil, Tm.cv_eq]
    rfl

theorem rwT_zero (n : Nat) (a : List Tm) : rwT n a 0 = (n, .mrow 31 2 (a.map Tm.cv)) := by unfold rwT; rw [List.replicate_zero, List.append_nil]
-- 
theorem oMulti_abs (W : World) (a b : List Tm) (ha : ∀ t ∈ a, t.fit) (hb : ∀ t ∈ b, t.fit) (hal : a.length ≤ 100000) (hbl : b.length ≤ 100000) : AFun Try.prog W 21 [.lst (a.map Tm.cv), .lst (b.map Tm.cv)] (.val (.b (mulB a b))) := by
  have hC1 := cloneT400001_abs a (by omega)
  have hC2 := cloneT400002_abs b (by omega)
  rw [← rwT_zero] at hC1 hC2
  have hO := oOut_abs a b ha hb hal hbl
  refine afun_of (rs := [.b (mulB a b)]) Try.func21 Try.ntmps21 rfl rfl rfl rfl ?_
  intro w U hW
  refine aS (aR ?_)
  (refine nx (aA (gN rfl) rfl rfl rfl rfl rfl) rfl ?_)
  show AWp _ _ _ _ _ _ _
  refine aS (aR ?_)
  (refine nx (aM (gN rfl) rfl rfl rfl rfl rfl) rfl ?_)
  (refine nx (a_callO (gN rfl) rfl rfl rfl rfl rfl (hC1) (by repeat (first | exact trivial | refine ⟨rfl, ?_⟩)) (by first | rfl | kernel_rfl) (by first | rfl | kernel_rfl) (by first | rfl | kernel_rfl) (by first | rfl | kernel_rfl) (fun k v h => by first | (rw [hW.1] at h; cases h) | (have h2 := hU k v h; cases h2))) rfl ?_)
  (refine nx (aM (gN rfl) rfl rfl rfl rfl rfl) rfl ?_)
  (refine nx (a_callO (gN rfl) rfl rfl rfl rfl rfl (hC2) (by repeat (first | exact trivial | refine ⟨rfl, ?_⟩)) (by first | rfl | kernel_rfl) (by first | rfl | kernel_rfl) (by first | rfl | kernel_rfl) (by first | rfl | kernel_rfl) (fun k v h => by first | (rw [hW.1] at h; cases h) | (have h2 := hU k v h; cases h2))) rfl ?_)
  (refine nx (a_callO (gN rfl) rfl rfl rfl rfl rfl (hO) (by repeat (first | exact trivial | refine ⟨rfl, ?_⟩)) (by first | rfl | kernel_rfl) (by first | rfl | kernel_rfl) (by first | rfl | kernel_rfl) (by first | rfl | kernel_rfl) (hnb_of (by first | rfl | kernel_rfl))) rfl ?_)
  (refine nx (aA (gN rfl) rfl rfl rfl rfl rfl) rfl ?_)
  show AWp _ _ _ _ _ _ _
  exact aT (And.intro (.inr rfl) rfl)
-- 
theorem oGr_abs (W : World) (x y : Lt) (hx : x.a.fit ∧ x.b.fit) (hy : y.a.fit ∧ y.b.fit) : AFun Try.prog W 17 [x.cw, y.cw] (.val (.b (mulB (tmsL x) (tmsL y)))) := by
  have hT1 := oTerms1_abs x
  have hT2 := oTerms2_abs y
  have l1 := tmsL_len x
  have l2 := tmsL_len y
  have hO := oOut_abs (tmsL x) (tmsL y) (tmsL_mem hx) (tmsL_mem hy) (by omega) (by omega)
  refine afun_of (rs := [.b (mulB (tmsL x) (tmsL y))]) Try.func17 Try.ntmps17 rfl rfl rfl rfl ?_
  intro w U hW
  refine aS (aR ?_)
  (refine nx (a_box (gN rfl) rfl rfl rfl rfl rfl) rfl ?_)
  (refine nx (a_box (gN rfl) rfl rfl rfl rfl rfl) rfl ?_)
  (refine nx (aA (gN rfl) rfl rfl rfl rfl rfl) rfl ?_)
  show AWp _ _ _ _ _ _ _
  refine aS (aD (by kernel_rfl) (by kernel_rfl) ?_)
  (refine nx (aL (gN rfl) rfl rfl rfl rfl rfl rfl rfl rfl rfl rfl rfl rfl) rfl ?_)
  (refine nx (a_callO (gN rfl) rfl rfl rfl rfl rfl (hT1) (by repeat (first | exact trivial | refine ⟨rfl, ?_⟩)) (by first | rfl | kernel_rfl) (by first | rfl | kernel_rfl) (by first | rfl | kernel_rfl) (by first | rfl | kernel_rfl) (fun k v h => by first | (rw [hW.1] at h; cases h) | (have h2 := hU k v h; cases h2))) rfl ?_)
  (refine nx (aL (gN rfl) rfl rfl rfl rfl rfl rfl rfl rfl rfl rfl rfl rfl) rfl ?_)
  (refine nx (a_callO (gN rfl) rfl rfl rfl rfl rfl (hT2) (by repeat (first | exact trivial | refine ⟨rfl, ?_⟩)) (by first | rfl | kernel_rfl) (by first | rfl | kernel_rfl) (by first | rfl | kernel_rfl) (by first | rfl | kernel_rfl) (fun k v h => by first | (rw [hW.1] at h; cases h) | (have h2 := hU k v h; cases h2))) rfl ?_)
  (refine nx (a_callO (gN rfl) rfl rfl rfl rfl rfl (hO) (by repeat (first | exact trivial | refine ⟨rfl, ?_⟩)) (by first | rfl | kernel_rfl) (by first | rfl | kernel_rfl) (by first | rfl | kernel_rfl) (by first | rfl | kernel_rfl) (hnb_of (by first | rfl | kernel_rfl))) rfl ?_)
  (refine nx (aA (gN rfl) rfl rfl rfl rfl rfl) rfl ?_)
  refine ⟨by kernel_rfl, ?_⟩
  show AWp _ _ _ _ _ _ _
  exact aT (And.intro (.inr rfl) rfl)
def len8 (n : Nat) : Int := if n = 0 then 0 else if n = 1 then 1 else if n < 4 then 2 else if n < 8 then 3 else 4
end Go.Proofs.Ytglbohajmccehaa
namespace Go.Proofs.Ytglbohajmccehaa
open Go.RowKit
set_option linter.unusedVariables false
set_option linter.unusedSimpArgs false
def fineB (l : List Tm) : Bool := l.all fun t => decide (0 ≤ smallT t 60 20)

theorem PsT.at {w : World} {base : Nat} {a : Option Addr} {n c : Nat} {ps : List (List Int)} (h : PsT w base (.slice a n c) ps) {i : Nat} (hi : i < ps.length) :
    ∃ (b off : Nat) (x : Pr), a = some ⟨b, off, none⟩ ∧ ps[i]? = some x.p ∧ x.ok (fun b => base ≤ b) w ∧ w.cell? ⟨b, off + i, none⟩ = some (.slice x.a x.n x.c) := by
  obtain ⟨xs, h1, h2, h3⟩ := h
  obtain ⟨a', c', e1, e2, e3, e4, e5⟩ := ownsRow_cs h1
  cases e1
  have hxl : xs.length = ps.length := by rw [← h2, List.length_map]
  have hix : i < xs.length := by omega
  rcases e5 with h | ⟨b, off, ha, hlt, hc⟩
  · rw [List.map_eq_nil_iff] at h; rw [h] at hix; simp at hix
  · refine ⟨b, off, xs[i], ha, ?_, (h3 _ (List.getElem_mem hix)).keep fun b h _ => ⟨h.1, rfl⟩, ?_⟩
    · rw [← h2, List.getElem?_map, List.getElem?_eq_getElem hix]; rfl
    · rw [hc i (by rw [List.length_map]; exact hix), List.getElem?_map, List.getElem?_eq_getElem hix]; rfl

theorem Pr.ok.at {U : Nat → Prop} {w : World} {x : Pr} (h : x.ok U w) {i : Nat} (hi : i < x.n) : ∃ b off z, x.a = some ⟨b, off, none⟩ ∧ U b ∧ b < w.heap.size ∧ x.p[i]? = some z ∧ w.cell? ⟨b, off + i, none⟩ = some (.int .i64 z) := by
  obtain ⟨h1, h2, h3, h4, h5⟩ := h
  have hip : i < x.p.length := by omega
  rcases h5 with h | ⟨b, off, ha, hu, hlt, hc⟩
  · unfold ints at h; rw [List.map_eq_nil_iff] at h; rw [h] at hip; simp at hip
  · refine ⟨b, off, x.p[i], ha, hu, hlt, List.getElem?_eq_getElem hip, ?_⟩
    rw [hc i (by unfold ints; rw [List.length_map]; exact hip)]
    unfold ints
    rw [List.getElem?_map, List.getElem?_eq_getElem hip]; rfl

def tm0 : Tm := .mk 1 [.mk (-1) [], .mk 2 []]
end Go.Proofs.Ytglbohajmccehaa
namespace Go.Proofs.Ytglbohajmccehaa
open Go.RowKit
set_option linter.unusedVariables false
set_option linter.unusedSimpArgs false
set_option maxRecDepth 100000

def ltL (cmp : Lt → Lt → Int) (x y : Lt) : Bool := decide (cmp x y < 0)
def cmpS (x y : Lt) : Int := if cmpT x.a y.a ≠ 0 then cmpT x.a y.a else cmpT x.b y.b
def othL (l : Lt) : Lt := ⟨l.neg, l.b, l.a⟩
def trnL (l : Lt) : Lt := if 0 ≤ cmpT l.a l.b then l else othL l
def holdB (l : Lt) : Bool := !l.neg && sameT l.a l.b
def chkL (L : List Lt) (i : Nat) : Bool := match L[i]?, L[i - 1]? with
  | some x, some y => decide (0 < i) && ((!(x.neg == y.neg)) && decide (cmpS x y = 0))
  | _, _ => false
def adjB (L : List Lt) : Bool := (List.range L.length).any (chkL L)
def srtL (L : List Lt) : List Lt := isortN (ltL cmpS) 0 (L.length - 1) 1 L
def tautP (c : List Lt) : Bool := c.any holdB || adjB (srtL (c.map trnL))
def okC (c : List Lt) : Prop := ∀ l ∈ c, l.a.rng ∧ l.b.rng
-- 
theorem idxL_abs (W : World) (p : Lt → Bool) (fc : CV) (c : List Lt) (hl : c.length ≤ 1000000) (hc : ∀ W, ∀ x ∈ c, AFunW Try.prog W fc [x.cw] (.val (.b (p x)))) : AFun Try.prog W 60 [.lst (c.map Lt.cv), fc] (.val (.i (match c.findIdx? p with | some i => (i : Int) | none => -1))) := by
  have hsz := Lt.size_all c
  obtain ⟨R, hR⟩ : ∃ R : Int, R = match c.findIdx? p with | some i => (i : Int) | none => -1 := ⟨_, rfl⟩
  rw [← hR]
  refine afun_of (rs := [.i R]) Try.func60 Try.ntmps60 rfl rfl rfl rfl ?_
  intro w U hW
  refine aS (aR ?_)
  (refine nx (aA (gN rfl) rfl rfl rfl rfl rfl) rfl ?_)
  show AWp _ _ _ _ _ _ _
  refine aS (aS (aR ?_))
  (refine nx (aM (gN rfl) rfl rfl rfl rfl rfl) rfl ?_)
  (refine nx (a_len (gN rfl) rfl rfl rfl rfl rfl rfl rfl) rfl ?_)
  (refine nx (aM (gN rfl) rfl rfl rfl rfl rfl) rfl ?_)
  show AWp _ _ _ _ _ _ _
  refine aB (awp_countI c.length (fun k => ∀ x ∈ c.take k, p x = false) (fun k => [(0, .val (.lst (c.map Lt.cv))), (1, .val fc), (7, .val (.i (c.map Lt.cv).length)), (8, .val (.i k))]) (wk_sub ⟨rfl, rfl, rfl, rfl, trivial⟩) (by simp) ?_)
  intro k hk hI
  refine aS (aR ?_)
  (refine nx (a_lss (gN rfl) rfl rfl rfl rfl rfl rfl) rfl ?_)
  show AWp _ _ _ _ _ _ _
  refine aS (aC rfl (fun hlt => ?_) (fun hlt => ?_))
  · have hkl : k < c.length := by simpa using hlt
    obtain ⟨x, hx⟩ : ∃ x, c[k]? = some x := ⟨c[k], List.getElem?_eq_getElem hkl⟩
    have hx' := Lt.map_at hx
    have hxm := List.mem_of_getElem? hx
    refine aK ?_
    show AWp _ _ _ _ _ _ _
    refine aS (aB (aS (aR ?_)))
    (refine nx (aM (gN rfl) rfl rfl rfl rfl rfl) rfl ?_)
    (refine nx (aA (gN rfl) rfl rfl rfl rfl rfl) rfl ?_)
    show AWp _ _ _ _ _ _ _
    refine aS (aR ?_)
    (refine nx (aM (gN rfl) rfl rfl rfl rfl rfl) rfl ?_)
    (refine nx (aM (gN rfl) rfl rfl rfl rfl rfl) rfl ?_)
    (refine nx (aM (gN rfl) rfl rfl rfl rfl rfl) rfl ?_)
    (refine nx (a_index (j := k) (gN rfl) rfl rfl rfl rfl rfl rfl rfl rfl rfl (hx') rfl (hsz)) rfl ?_)
    (refine nx (a_load_ad (gN rfl) rfl rfl rfl rfl rfl rfl rfl rfl rfl) rfl ?_)
    (refine nx (a_callw (gN rfl) rfl rfl rfl rfl rfl rfl (hc w x hxm)) rfl ?_)
    show AWp _ _ _ _ _ _ _
    refine aC rfl (fun hp => ?_) (fun hp => ?_)
    · have hRk : R = k := by
        rw [hR]
        have : c.findIdx? p = some k := by
          rw [List.findIdx?_eq_some_iff_getElem]
          obtain ⟨hk2, e⟩ := List.getElem?_eq_some_iff.1 hx
          refine ⟨hk2, by rw [e]; exact hp, fun j hj => ?_⟩
          have := hI c[j] (List.mem_take_iff_getElem.2 ⟨j, by omega, rfl⟩)
          simpa using this
        rw [this]
      rw [hRk]
      refine aS (aR ?_)
      (refine nx (aM (gN rfl) rfl rfl rfl rfl rfl) rfl ?_)
      (refine nx (aA (gN rfl) rfl rfl rfl rfl rfl) rfl ?_)
      show AWp _ _ _ _ _ _ _
      exact aT (And.intro (.inr rfl) rfl)
    · refine aK ?_
      show AWp _ _ _ _ _ _ _
      refine aR ?_
      (refine nx (a_add (gN rfl) rfl rfl rfl rfl rfl rfl (by first | omega | (simp only [List.length_map, List.length_append, List.length_cons, List.length_nil] <;> omega) | (simp <;> omega))) rfl ?_)
      (refine nx (aM (gN rfl) rfl rfl rfl rfl rfl) rfl ?_)
      refine ⟨hkl, ?_, wk_sub ⟨rfl, rfl, rfl, rfl, trivial⟩⟩
      intro y hy
      rw [List.take_add_one, hx, List.mem_append] at hy
      rcases hy with hy | hy
      · exact hI y hy
      · simp at hy; rw [hy]; exact hp
  · have hkl : k = c.length := by
      have : ¬ k < c.length := by simpa using hlt
      omega
    subst hkl
    rw [List.take_length] at hI
    have hRn : R = -1 := by
      rw [hR, List.findIdx?_eq_none_iff.2 fun x hx => by rw [hI x hx]]
    rw [hRn]
    refine aE ?_
    show AWp _ _ _ _ _ _ _
    refine aS (aR ?_)
    (refine nx (aA (gN rfl) rfl rfl rfl rfl rfl) rfl ?_)
    show AWp _ _ _ _ _ _ _
    exact aT (And.intro (.inr rfl) rfl)
-- 
theorem conL_abs (W : World) (p : Lt → Bool) (fc : CV) (c : List Lt) (hl : c.length ≤ 1000000) (hc : ∀ W, ∀ x ∈ c, AFunW Try.prog W fc [x.cw] (.val (.b (p x)))) : AFun Try.prog W 43 [.lst (c.map Lt.cv), fc] (.val (.b (c.any p))) := by
  have e : decide ((match c.findIdx? p with | some i => (i : Int) | none => -1) ≥ 0) = c.any p := by
    cases h : c.findIdx? p with
    | none =>
      have h1 := List.findIdx?_eq_none_iff.1 h
      have : c.any p = false := by
        rw [List.any_eq_false]
        intro x hx
        rw [h1 x hx]; simp
      rw [this]; rfl
    | some i =>
      obtain ⟨hi, hp, _⟩ := List.findIdx?_eq_some_iff_getElem.1 h
      have : c.any p = true := List.any_eq_true.2 ⟨_, List.getElem_mem hi, hp⟩
      rw [this]
      simp
  refine afun_of (rs := [.b (c.any p)]) Try.func43 Try.ntmps43 rfl rfl rfl rfl ?_
  intro w U hW
  refine aS (aR ?_)
  (refine nx (aA (gN rfl) rfl rfl rfl rfl rfl) rfl ?_)
  show AWp _ _ _ _ _ _ _
  refine aS (aR ?_)
  (refine nx (aM (gN rfl) rfl rfl rfl rfl rfl) rfl ?_)
  (refine nx (aM (gN rfl) rfl rfl rfl rfl rfl) rfl ?_)
  (refine nx (a_call (gN rfl) rfl rfl rfl rfl rfl (idxL_abs w p fc c hl hc)) rfl ?_)
  (refine nx (a_geq (gN rfl) rfl rfl rfl rfl rfl rfl) rfl ?_)
  (refine nx (aA (gN rfl) rfl rfl rfl rfl rfl) rfl ?_)
  show AWp _ _ _ _ _ _ _
  rw [e]
  exact aT (And.intro (.inr rfl) rfl)
theorem half_at {α : Type} (f : α → α) (c : List α) {k : Nat} {x : α} (hx : c[k]? = some x) : ((c.take k).map f ++ c.drop k)[k]? = some x ∧ ((c.take k).map f ++ c.drop k).set k (f x) = (c.take (k + 1)).map f ++ c.drop (k + 1) := by
  obtain ⟨hk, e⟩ := List.getElem?_eq_some_iff.1 hx
  have hl : ((c.take k).map f).length = k := by rw [List.length_map, List.length_take]; omega
  have hd : c.drop k = x :: c.drop (k + 1) := by rw [List.drop_eq_getElem_cons hk, e]
  constructor
  · rw [List.getElem?_append_right (by omega), hl, Nat.sub_self, hd]; rfl
  · rw [List.set_append_right _ _ (by omega), hl, Nat.sub_self, hd, List.set_cons_zero, List.take_add_one, hx, List.map_append, List.append_assoc]
    rfl
def wtC (c : List Lt) : Nat := (c.map fun l => l.a.size + l.b.size).sum
def Lt.fit (l : Lt) : Prop := l.a.fit ∧ l.b.fit
def wtL (l : Lt) : Int := (l.a.size : Int) + (l.b.size : Int)
-- 
theorem oWt_abs (W : World) (l : Lt) (h : l.fit) : AFun Try.prog W 59 [l.cw] (.val (.i (wtL l))) := by
  have h1 := h.1.2.2
  have h2 := h.2.2.2
  refine afun_of (rs := [.i (wtL l)]) Try.func59 Try.ntmps59 rfl rfl rfl rfl ?_
  intro w U hW
  refine aS (aR ?_)
  (refine nx (a_box (gN rfl) rfl rfl rfl rfl rfl) rfl ?_)
  (refine nx (aA (gN rfl) rfl rfl rfl rfl rfl) rfl ?_)
  show AWp _ _ _ _ _ _ _
  refine aS (aD (by kernel_rfl) (by kernel_rfl) ?_)
  (refine nx (aF (gN rfl) rfl rfl rfl rfl rfl rfl rfl rfl rfl) rfl ?_)
  (refine nx (aLb (gN rfl) rfl rfl rfl rfl rfl rfl rfl rfl rfl rfl rfl rfl) rfl ?_)
  (refine nx (a_call (gN rfl) rfl rfl rfl rfl rfl (size_abs w h.1.1 (by omega))) rfl ?_)
  (refine nx (aF (gN rfl) rfl rfl rfl rfl rfl rfl rfl rfl rfl) rfl ?_)
  (refine nx (aLb (gN rfl) rfl rfl rfl rfl rfl rfl rfl rfl rfl rfl rfl rfl) rfl ?_)
  (refine nx (a_call (gN rfl) rfl rfl rfl rfl rfl (size_abs w h.2.1 (by omega))) rfl ?_)
  (refine nx (a_add (gN rfl) rfl rfl rfl rfl rfl rfl (by first | omega | (simp only [List.length_map, List.length_append, List.length_cons, List.length_nil] <;> omega) | (simp <;> omega))) rfl ?_)
  (refine nx (aA (gN rfl) rfl rfl rfl rfl rfl) rfl ?_)
  refine ⟨by kernel_rfl, ?_⟩
  show AWp _ _ _ _ _ _ _
  exact aT (And.intro (.inr rfl) rfl)
def hvK (c : List Lt) : Nat → Int × Int
  | 0 => (-1, 0)
  | k + 1 => match c[k]? with
    | none => hvK c k
    | some l => if l.neg = true ∧ (hvK c k).2 < wtL l then ((k : Int), wtL l) else hvK c k
-- 
theorem oHv_abs (W : World) (c : List Lt) (hn : c.length ≤ 100000) (hc : ∀ l ∈ c, l.fit) : AFun Try.prog W 42 [.lst (c.map Lt.cv)] (.val (.i (hvK c c.length).1)) := by
  have hsz := Lt.size_all c
  refine afun_of (rs := [.i (hvK c c.length).1]) Try.func42 Try.ntmps42 rfl rfl rfl rfl ?_
  intro w U hW
  refine aS (aR ?_)
  (refine nx (aA (gN rfl) rfl rfl rfl rfl rfl) rfl ?_)
  show AWp _ _ _ _ _ _ _
  refine aS (aR ?_)
  (refine nx (aA (gN rfl) rfl rfl rfl rfl rfl) rfl ?_)
  (refine nx (aA (gN rfl) rfl rfl rfl rfl rfl) rfl ?_)
  show AWp _ _ _ _ _ _ _
  refine aS (aS (aR ?_))
  (refine nx (aM (gN rfl) rfl rfl rfl rfl rfl) rfl ?_)
  (refine nx (a_len (gN rfl) rfl rfl rfl rfl rfl rfl rfl) rfl ?_)
  (refine nx (aM (gN rfl) rfl rfl rfl rfl rfl) rfl ?_)
  show AWp _ _ _ _ _ _ _
  let st : Nat → AS := fun k => [(3, .val (.i (hvK c k).1)), (4, .val (.i (hvK c k).2)), (8, .val (.lst (c.map Lt.cv))), (9, .val (.i (c.map Lt.cv).length)), (10, .val (.i k))]
  refine aB (awp_count c.length st (wk_sub ⟨rfl, rfl, rfl, rfl, rfl, trivial⟩) ?_)
  intro k hk
  refine aS (aR ?_)
  (refine nx (a_lss (gN rfl) rfl rfl rfl rfl rfl rfl) rfl ?_)
  show AWp _ _ _ _ _ _ _
  refine aS (aC rfl (fun hlt => ?_) (fun hlt => ?_))
  · have hkl : k < c.length := by simpa using hlt
    obtain ⟨x, hx⟩ : ∃ x, c[k]? = some x := ⟨c[k], List.getElem?_eq_getElem hkl⟩
    have hx' := Lt.map_at hx
    have hxf := hc x (List.mem_of_getElem? hx)
    have hK : hvK c (k + 1) = if x.neg = true ∧ (hvK c k).2 < wtL x then ((k : Int), wtL x) else hvK c k := by conv => lhs; unfold hvK; rw [hx]
    refine aK ?_
    show AWp _ _ _ _ _ _ _
    refine aS (aB (aS (aR ?_)))
    (refine nx (aM (gN rfl) rfl rfl rfl rfl rfl) rfl ?_)
    (refine nx (a_index (j := k) (gN rfl) rfl rfl rfl rfl rfl rfl rfl rfl rfl (hx') rfl (hsz)) rfl ?_)
    (refine nx (a_load_ad (gN rfl) rfl rfl rfl rfl rfl rfl rfl rfl rfl) rfl ?_)
    (refine nx (a_alloc (gN rfl) rfl rfl rfl rfl rfl rfl rfl rfl rfl rfl) rfl ?_)
    (refine nx (aA (gN rfl) rfl rfl rfl rfl rfl) rfl ?_)
    (refine nx (aSt (gN rfl) rfl rfl rfl rfl rfl rfl rfl rfl rfl rfl) rfl ?_)
    show AWp _ _ _ _ _ _ _
    refine AWp.wk (wk_sub (s' := [(3, .val (.i (hvK c k).1)), (4, .val (.i (hvK c k).2)), (5, .val (.i k)), (6, .bp 6 0 []), (100006, .bx x.cw), (8, .val (.lst (c.map Lt.cv))), (9, .val (.i (c.map Lt.cv).length)), (10, .val (.i k))]) ⟨rfl, rfl, rfl, rfl, rfl, rfl, rfl, rfl, trivial⟩) ?_
    refine aS (aS (aR ?_))
    (refine nx (aF (gN rfl) rfl rfl rfl rfl rfl rfl rfl rfl rfl) rfl ?_)
    (refine nx (aLb (gN rfl) rfl rfl rfl rfl rfl rfl rfl rfl rfl rfl rfl rfl) rfl ?_)
    (refine nx (a_not (gN rfl) rfl rfl rfl rfl rfl) rfl ?_)
    show AWp _ _ _ _ _ _ _
    refine aC rfl (fun hb => ?_) (fun hb => ?_)
    · have hb : (!x.neg) = true := hb
      have hng : x.neg = false := by simpa using hb
      have e : hvK c (k + 1) = hvK c k := by rw [hK, if_neg (by rw [hng]; simp)]
      refine aE ?_
      show AWp _ _ _ _ _ _ _
      refine aR ?_
      (refine nx (a_add (gN rfl) rfl rfl rfl rfl rfl rfl (by first | omega | (simp only [List.length_map, List.length_append, List.length_cons, List.length_nil] <;> omega) | (simp <;> omega))) rfl ?_)
      (refine nx (aM (gN rfl) rfl rfl rfl rfl rfl) rfl ?_)
      refine ⟨hkl, wk_sub ⟨?_, ?_, rfl, rfl, rfl, trivial⟩⟩
      · rw [e]; rfl
      · rw [e]; rfl
    · have hb : (!x.neg) = false := hb
      have hng : x.neg = true := by simpa using hb
      refine aK ?_
      show AWp _ _ _ _ _ _ _
      refine aS (aR ?_)
      (refine nx (aL (gN rfl) rfl rfl rfl rfl rfl rfl rfl rfl rfl rfl rfl rfl) rfl ?_)
      (refine nx (a_call (gN rfl) rfl rfl rfl rfl rfl (oWt_abs w x hxf)) rfl ?_)
      (refine nx (aA (gN rfl) rfl rfl rfl rfl rfl) rfl ?_)
      show AWp _ _ _ _ _ _ _
      refine aS (aR ?_)
      (refine nx (aM (gN rfl) rfl rfl rfl rfl rfl) rfl ?_)
      (refine nx (aM (gN rfl) rfl rfl rfl rfl rfl) rfl ?_)
      (refine nx (a_gtr (gN rfl) rfl rfl rfl rfl rfl rfl) rfl ?_)
      show AWp _ _ _ _ _ _ _
      refine aC rfl (fun hg => ?_) (fun hg => ?_)
      · have hg : decide (wtL x > (hvK c k).2) = true := hg
        have hg := of_decide_eq_true hg
        have e : hvK c (k + 1) = ((k : Int), wtL x) := by rw [hK, if_pos ⟨hng, by omega⟩]
        refine aR ?_
        (refine nx (aM (gN rfl) rfl rfl rfl rfl rfl) rfl ?_)
        (refine nx (aM (gN rfl) rfl rfl rfl rfl rfl) rfl ?_)
        (refine nx (aA (gN rfl) rfl rfl rfl rfl rfl) rfl ?_)
        (refine nx (aA (gN rfl) rfl rfl rfl rfl rfl) rfl ?_)
        show AWp _ _ _ _ _ _ _
        refine aR ?_
        (refine nx (a_add (gN rfl) rfl rfl rfl rfl rfl rfl (by first | omega | (simp only [List.length_map, List.length_append, List.length_cons, List.length_nil] <;> omega) | (simp <;> omega))) rfl ?_)
        (refine nx (aM (gN rfl) rfl rfl rfl rfl rfl) rfl ?_)
        refine ⟨hkl, wk_sub ⟨?_, ?_, rfl, rfl, rfl, trivial⟩⟩
        · rw [e]; rfl
        · rw [e]; rfl
      · have hg : decide (wtL x > (hvK c k).2) = false := hg
        have hg := of_decide_eq_false hg
        have e : hvK c (k + 1) = hvK c k := by rw [hK, if_neg (fun h => by have := h.2; omega)]
        refine aK ?_
        show AWp _ _ _ _ _ _ _
        refine aR ?_
        (refine nx (a_add (gN rfl) rfl rfl rfl rfl rfl rfl (by first | omega | (simp only [List.length_map, List.length_append, List.length_cons, List.length_nil] <;> omega) | (simp <;> omega))) rfl ?_)
        (refine nx (aM (gN rfl) rfl rfl rfl rfl rfl) rfl ?_)
        refine ⟨hkl, wk_sub ⟨?_, ?_, rfl, rfl, rfl, trivial⟩⟩
        · rw [e]; rfl
        · rw [e]; rfl
  · have hkl : k = c.length := by
      have : ¬ k < c.length := by simpa using hlt
      omega
    subst hkl
    refine aE ?_
    show AWp _ _ _ _ _ _ _
    refine aS (aR ?_)
    (refine nx (aM (gN rfl) rfl rfl rfl rfl rfl) rfl ?_)
    (refine nx (aA (gN rfl) rfl rfl rfl rfl rfl) rfl ?_)
    show AWp _ _ _ _ _ _ _
    exact aT (And.intro (.inr rfl) rfl)
noncomputable def gstL (c : List Lt) (x : Lt) : Bool := !(c.any fun l => mulB (tmsL l) (tmsL x))
noncomputable def gstI (c : List Lt) (i : Int) : Bool := if 0 ≤ i then (match c[i.toNat]? with | some x => gstL c x | none => false) else false
-- 
theorem oGstF_abs (W : World) (c : List Lt) (k : Nat) (x l : Lt) (hx : c[k]? = some x) (hxf : x.fit) (hl : l.fit) : AFun Try.prog W 44 [l.cw, .ptr (.lst (c.map Lt.cv)), .ptr (.i (k : Int))] (.val (.b (mulB (tmsL l) (tmsL x)))) := by
  have hsz := Lt.size_all c
  have hx' := Lt.map_at hx
  refine afun_of (rs := [.b (mulB (tmsL l) (tmsL x))]) Try.func44 Try.ntmps44 rfl rfl rfl rfl ?_
  intro w U hW
  refine aS (aR ?_)
  (refine nx (a_box (gN rfl) rfl rfl rfl rfl rfl) rfl ?_)
  (refine nx (aA (gN rfl) rfl rfl rfl rfl rfl) rfl ?_)
  show AWp _ _ _ _ _ _ _
  refine aS (aD (by kernel_rfl) (by kernel_rfl) ?_)
  (refine nx (aL (gN rfl) rfl rfl rfl rfl rfl rfl rfl rfl rfl rfl rfl rfl) rfl ?_)
  (refine nx (a_load_ptr (gN rfl) rfl rfl rfl rfl rfl rfl rfl rfl rfl) rfl ?_)
  (refine nx (a_load_ptr (gN rfl) rfl rfl rfl rfl rfl rfl rfl rfl rfl) rfl ?_)
  (refine nx (a_index (j := k) (gN rfl) rfl rfl rfl rfl rfl rfl rfl rfl rfl (hx') rfl (hsz)) rfl ?_)
  (refine nx (a_load_ad (gN rfl) rfl rfl rfl rfl rfl rfl rfl rfl rfl) rfl ?_)
  (refine nx (a_call (gN rfl) rfl rfl rfl rfl rfl (oGr_abs w l x hl hxf)) rfl ?_)
  (refine nx (aA (gN rfl) rfl rfl rfl rfl rfl) rfl ?_)
  refine ⟨by kernel_rfl, ?_⟩
  show AWp _ _ _ _ _ _ _
  exact aT (And.intro (.inr rfl) rfl)
-- 
theorem oGst_abs (W : World) (c : List Lt) (i : Int) (hn : c.length ≤ 100000) (hc : ∀ l ∈ c, l.fit) : AFun Try.prog W 26 [.lst (c.map Lt.cv), .i i] (.val (.b (gstI c i))) := by
  refine afun_of (rs := [.b (gstI c i)]) Try.func26 Try.ntmps26 rfl rfl rfl rfl ?_
  intro w U hW
  refine aS (aR ?_)
  (refine nx (a_box (gN rfl) rfl rfl rfl rfl rfl) rfl ?_)
  (refine nx (a_box (gN rfl) rfl rfl rfl rfl rfl) rfl ?_)
  (refine nx (aA (gN rfl) rfl rfl rfl rfl rfl) rfl ?_)
  show AWp _ _ _ _ _ _ _
  by_cases hi : i < 0
  · have g : decide (i < 0) = true := decide_eq_true hi
    have e : gstI c i = false := by unfold gstI; rw [if_neg (by omega)]
    rw [e]
    refine aS (aS (aR ?_))
    (refine nx (aL (gN rfl) rfl rfl rfl rfl rfl rfl rfl rfl rfl rfl rfl rfl) rfl ?_)
    (refine nx (a_lss (gN rfl) rfl rfl rfl rfl rfl rfl) rfl ?_)
    (refine nx (aM (gN rfl) rfl rfl rfl rfl rfl) rfl ?_)
    (refine ⟨_, _, _, a_off (go_off rfl rfl rfl rfl (by first | rfl | assumption | (simp; done) | (simp [*]; done))) rfl rfl rfl, rfl, ?_⟩)
    (refine ⟨_, _, _, a_off (go_off rfl rfl rfl rfl (by first | rfl | assumption | (simp; done) | (simp [*]; done))) rfl rfl rfl, rfl, ?_⟩)
    (refine ⟨_, _, _, a_off (go_off rfl rfl rfl rfl (by first | rfl | assumption | (simp; done) | (simp [*]; done))) rfl rfl rfl, rfl, ?_⟩)
    (refine ⟨_, _, _, a_off (go_off rfl rfl rfl rfl (by first | rfl | assumption | (simp; done) | (simp [*]; done))) rfl rfl rfl, rfl, ?_⟩)
    (refine ⟨_, _, _, aPt (gN rfl) rfl rfl rfl rfl rfl ?hb rfl, rfl, ?_⟩; case hb => (first | rfl | assumption | (simp; done)))
    show AWp _ _ _ _ _ _ _
    refine aC rfl (fun _ => ?_) (fun h => by cases h)
    refine aS (aR ?_)
    (refine nx (aA (gN rfl) rfl rfl rfl rfl rfl) rfl ?_)
    show AWp _ _ _ _ _ _ _
    exact aT (And.intro (.inr rfl) rfl)
  · have g : decide (i < 0) = false := decide_eq_false hi
    refine aS (aS (aR ?_))
    (refine nx (aL (gN rfl) rfl rfl rfl rfl rfl rfl rfl rfl rfl rfl rfl rfl) rfl ?_)
    (refine nx (a_lss (gN rfl) rfl rfl rfl rfl rfl rfl) rfl ?_)
    (refine nx (aM (gN rfl) rfl rfl rfl rfl rfl) rfl ?_)
    (refine nx (aL (gd_on rfl rfl rfl rfl (by first | rfl | assumption | (simp; done))) rfl rfl rfl rfl rfl rfl rfl rfl rfl rfl rfl rfl) rfl ?_)
    (refine nx (aL (gd_on rfl rfl rfl rfl (by first | rfl | assumption | (simp; done))) rfl rfl rfl rfl rfl rfl rfl rfl rfl rfl rfl rfl) rfl ?_)
    (refine nx (a_len (gd_on rfl rfl rfl rfl (by first | rfl | assumption | (simp; done))) rfl rfl rfl rfl rfl rfl rfl) rfl ?_)
    (refine nx (a_geq (gd_on rfl rfl rfl rfl (by first | rfl | assumption | (simp; done))) rfl rfl rfl rfl rfl rfl) rfl ?_)
    (refine ⟨_, _, _, aPf (gN rfl) rfl rfl rfl rfl rfl ?hb rfl, rfl, ?_⟩; case hb => (first | rfl | assumption | (simp; done)))
    show AWp _ _ _ _ _ _ _
    refine aC rfl (fun h => ?_) (fun h => ?_)
    · have h : decide (i ≥ ((c.map Lt.cv).length : Int)) = true := h
      have h := of_decide_eq_true h
      rw [List.length_map] at h
      have e : gstI c i = false := by unfold gstI; rw [if_pos (by omega), List.getElem?_eq_none (by omega)]
      rw [e]
      refine aS (aR ?_)
      (refine nx (aA (gN rfl) rfl rfl rfl rfl rfl) rfl ?_)
      show AWp _ _ _ _ _ _ _
      exact aT (And.intro (.inr rfl) rfl)
    · have h : decide (i ≥ ((c.map Lt.cv).length : Int)) = false := h
      have h := of_decide_eq_false h
      rw [List.length_map] at h
      obtain ⟨k, rfl⟩ : ∃ k : Nat, i = (k : Int) := ⟨i.toNat, by omega⟩
      have hkl : k < c.length := by omega
      obtain ⟨x, hx⟩ : ∃ x, c[k]? = some x := ⟨c[k], List.getElem?_eq_getElem hkl⟩
      have hxf := hc x (List.mem_of_getElem? hx)
      have e : gstI c (k : Int) = !(c.any fun l => mulB (tmsL l) (tmsL x)) := by unfold gstI; rw [if_pos (by omega), Int.toNat_natCast, hx]; rfl
      rw [e]
      refine aK ?_
      show AWp _ _ _ _ _ _ _
      refine AWp.wk ((wk_freeze 2 rfl rfl rfl (s' := [(3, .bp 3 0 []), (100003, .bx (.i (k : Int)))]) ⟨rfl, rfl, trivial⟩ rfl rfl rfl).trans (wk_freeze 3 rfl rfl rfl (s' := [(2, .val (.ptr (.lst (c.map Lt.cv))))]) ⟨rfl, trivial⟩ rfl rfl rfl)) ?_
      refine aS (aR ?_)
      (refine nx (a_load_ptr (gN rfl) rfl rfl rfl rfl rfl rfl rfl rfl rfl) rfl ?_)
      (refine nx (a_mkfunc (gN rfl) rfl rfl rfl rfl rfl rfl) rfl ?_)
      (refine nx (a_call (gN rfl) rfl rfl rfl rfl rfl (conL_abs w (fun l => mulB (tmsL l) (tmsL x)) (.fn 44 0 [.ptr (.lst (c.map Lt.cv)), .ptr (.i (k : Int))]) c (by omega) (fun w l hl => .inl ⟨_, _, _, rfl, oGstF_abs w c k x l hx hxf (hc l hl)⟩))) rfl ?_)
      (refine nx (a_not (gN rfl) rfl rfl rfl rfl rfl) rfl ?_)
      (refine nx (aA (gN rfl) rfl rfl rfl rfl rfl) rfl ?_)
      show AWp _ _ _ _ _ _ _
      exact aT (And.intro (.inr rfl) rfl)
noncomputable def gsK (c : List Lt) (k : Nat) : List Int := ((List.range k).filter fun i : Nat => gstI c (i : Int)).map fun i : Nat => (i : Int)
theorem gsK_len (c : List Lt) (k : Nat) : (gsK c k).length ≤ k := by
  unfold gsK
  rw [List.length_map]
  exact Nat.le_trans (List.length_filter_le _ _) (by rw [List.length_range]; exact Nat.le_refl _)
theorem gsK_succ (c : List Lt) (k : Nat) : gsK c (k + 1) = gsK c k ++ (if gstI c (k : Int) = true then [(k : Int)] else []) := by
  unfold gsK
  rw [List.range_succ, List.filter_append, List.map_append]
  congr 1
  by_cases h : gstI c (k : Int) = true
  · rw [if_pos h, List.filter_cons_of_pos (by exact h)]; rfl
  · rw [if_neg h, List.filter_cons_of_neg (by exact h)]; rfl
noncomputable def lokL (c : List Lt) : List Int := if (hvK c c.length).1 ≥ 0 then [(hvK c c.length).1] else gsK c c.length
-- 
theorem oLook_abs (W : World) (c : List Lt) (hn : c.length ≤ 100000) (hc : ∀ l ∈ c, l.fit) : AFun Try.prog W 25 [.lst (c.map Lt.cv)] (.val (.lst ((lokL c).map CV.i))) := by
  refine afun_of (rs := [.lst ((lokL c).map CV.i)]) Try.func25 Try.ntmps25 rfl rfl rfl rfl ?_
  intro w U hW
  obtain ⟨hvv, hhv⟩ : ∃ z, z = (hvK c c.length).1 := ⟨_, rfl⟩
  have hlk : lokL c = if hvv ≥ 0 then [hvv] else gsK c c.length := by unfold lokL; rw [hhv]
  have hH := oHv_abs w c hn hc
  rw [← hhv] at hH
  refine aS (aR ?_)
  (refine nx (aA (gN rfl) rfl rfl rfl rfl rfl) rfl ?_)
  show AWp _ _ _ _ _ _ _
  refine aS (aS (aR ?_))
  (refine nx (aM (gN rfl) rfl rfl rfl rfl rfl) rfl ?_)
  (refine nx (a_call (gN rfl) rfl rfl rfl rfl rfl (hH)) rfl ?_)
  (refine nx (aA (gN rfl) rfl rfl rfl rfl rfl) rfl ?_)
  show AWp _ _ _ _ _ _ _
  refine aS (aR ?_)
  (refine nx (aM (gN rfl) rfl rfl rfl rfl rfl) rfl ?_)
  (refine nx (a_geq (gN rfl) rfl rfl rfl rfl rfl rfl) rfl ?_)
  show AWp _ _ _ _ _ _ _
  refine aC rfl (fun h => ?_) (fun h => ?_)
  · have h : decide (hvv ≥ 0) = true := h
    rw [hlk, if_pos (of_decide_eq_true h)]
    refine aS (aR ?_)
    (refine nx (aM (gN rfl) rfl rfl rfl rfl rfl) rfl ?_)
    (refine nx (a_bslice (gN rfl) rfl rfl rfl rfl rfl rfl rfl rfl rfl rfl rfl rfl rfl) rfl ?_)
    (refine nx (aA (gN rfl) rfl rfl rfl rfl rfl) rfl ?_)
    show AWp _ _ _ _ _ _ _
    exact aT (And.intro (.inr rfl) rfl)
  · have h : decide (hvv ≥ 0) = false := h
    rw [hlk, if_neg (of_decide_eq_false h)]
    refine aK ?_
    show AWp _ _ _ _ _ _ _
    refine aS (aR ?_)
    (refine nx (aA (gN rfl) rfl rfl rfl rfl rfl) rfl ?_)
    show AWp _ _ _ _ _ _ _
    refine aS (aS (aR ?_))
    (refine nx (aM (gN rfl) rfl rfl rfl rfl rfl) rfl ?_)
    (refine nx (a_len (gN rfl) rfl rfl rfl rfl rfl rfl rfl) rfl ?_)
    (refine nx (aM (gN rfl) rfl rfl rfl rfl rfl) rfl ?_)
    show AWp _ _ _ _ _ _ _
    let st : Nat → AS := fun k => [(0, .val (.lst (c.map Lt.cv))), (4, .own (.lst ((gsK c k).map CV.i)) 200023), (200023, .tok 3 1), (13, .val (.i (c.map Lt.cv).length)), (14, .val (.i k))]
    refine aB (awp_count c.length st ((wk_nil 4 200023 3 1 rfl rfl rfl rfl rfl rfl rfl).trans (wk_sub ⟨rfl, rfl, rfl, rfl, rfl, trivial⟩)) ?_)
    intro k hk
    refine aS (aR ?_)
    (refine nx (a_lss (gN rfl) rfl rfl rfl rfl rfl rfl) rfl ?_)
    show AWp _ _ _ _ _ _ _
    refine aS (aC rfl (fun hlt => ?_) (fun hlt => ?_))
    · have hkl : k < c.length := by simpa using hlt
      have hl3 : ((gsK c k).map CV.i).length ≤ k := by rw [List.length_map]; exact gsK_len c k
      have hl4 := gsK_len c k
      have hsz3 : ∀ x ∈ (gsK c k).map CV.i, x.size = 1 := ints_size _
      refine aK ?_
      show AWp _ _ _ _ _ _ _
      refine aS (aB (aS (aR ?_)))
      (refine nx (aM (gN rfl) rfl rfl rfl rfl rfl) rfl ?_)
      (refine nx (aA (gN rfl) rfl rfl rfl rfl rfl) rfl ?_)
      show AWp _ _ _ _ _ _ _
      refine aS (aR ?_)
      (refine nx (aM (gN rfl) rfl rfl rfl rfl rfl) rfl ?_)
      (refine nx (aM (gN rfl) rfl rfl rfl rfl rfl) rfl ?_)
      (refine nx (a_call (gN rfl) rfl rfl rfl rfl rfl (oGst_abs w c k hn hc)) rfl ?_)
      show AWp _ _ _ _ _ _ _
      refine aC rfl (fun hg => ?_) (fun hg => ?_)
      · have hg : gstI c (k : Int) = true := hg
        refine aR ?_
        (refine nx (aM (gN rfl) rfl rfl rfl rfl rfl) rfl ?_)
        (refine nx (aM (gN rfl) rfl rfl rfl rfl rfl) rfl ?_)
        (refine nx (a_bslice (gN rfl) rfl rfl rfl rfl rfl rfl rfl rfl rfl rfl rfl rfl rfl) rfl ?_)
        (refine nx (a_app (gN rfl) rfl rfl rfl rfl rfl rfl rfl rfl rfl rfl rfl rfl rfl rfl rfl (by first | assumption | exact sZ rfl | exact Tm.size_all _ | exact Bd.size_all _ | exact ints_size _ | exact bys_size _ | exact Lt.size_all _) (by first | assumption | exact sZ rfl | exact Tm.size_all _ | exact Bd.size_all _ | exact ints_size _ | exact bys_size _ | exact Lt.size_all _) (by first | omega | (simp only [List.length_map, List.length_append, List.length_cons, List.length_nil] <;> omega) | (simp <;> omega))) rfl ?_)
        (refine nx (aA (gN rfl) rfl rfl rfl rfl rfl) rfl ?_)
        show AWp _ _ _ _ _ _ _
        refine AWp.wk ((wk_sub (s' := [(0, .val (.lst (c.map Lt.cv))), (4, .own (.lst ((gsK c k).map CV.i ++ [CV.i (k : Int)])) 300023), (300023, .tok 3 1), (13, .val (.i (c.map Lt.cv).length)), (14, .val (.i k))]) ⟨rfl, rfl, rfl, rfl, rfl, trivial⟩).trans (wk_ren 300023 200023 rfl rfl rfl rfl)) ?_
        refine aR ?_
        (refine nx (a_add (gN rfl) rfl rfl rfl rfl rfl rfl (by first | omega | (simp only [List.length_map, List.length_append, List.length_cons, List.length_nil] <;> omega) | (simp <;> omega))) rfl ?_)
        (refine nx (aM (gN rfl) rfl rfl rfl rfl rfl) rfl ?_)
        refine ⟨hkl, wk_sub ⟨rfl, ?_, rfl, rfl, rfl, trivial⟩⟩
        show some (AV.own (.lst _) _) = some (AV.own (.lst _) _)
        rw [gsK_succ, if_pos hg, List.map_append]
        rfl
      · have hg : gstI c (k : Int) = false := hg
        refine aK ?_
        show AWp _ _ _ _ _ _ _
        refine aR ?_
        (refine nx (a_add (gN rfl) rfl rfl rfl rfl rfl rfl (by first | omega | (simp only [List.length_map, List.length_append, List.length_cons, List.length_nil] <;> omega) | (simp <;> omega))) rfl ?_)
        (refine nx (aM (gN rfl) rfl rfl rfl rfl rfl) rfl ?_)
        refine ⟨hkl, wk_sub ⟨rfl, ?_, rfl, rfl, rfl, trivial⟩⟩
        show some (AV.own (.lst _) _) = some (AV.own (.lst _) _)
        rw [gsK_succ, if_neg (by rw [hg]; decide), List.append_nil]
    · have hkl : k = c.length := by
        have : ¬ k < c.length := by simpa using hlt
        omega
      subst hkl
      refine aE ?_
      show AWp _ _ _ _ _ _ _
      refine aS (aR ?_)
      (refine nx (aM (gN rfl) rfl rfl rfl rfl rfl) rfl ?_)
      (refine nx (aA (gN rfl) rfl rfl rfl rfl rfl) rfl ?_)
      show AWp _ _ _ _ _ _ _
      exact aT (And.intro (.inr rfl) rfl)
noncomputable def prC (p : Tm × Tm) : CV := .row [p.1.cw, p.2.cw]
theorem prC_size (l : List (Tm × Tm)) : ∀ x ∈ l.map prC, x.size = 4 := by
  intro x hx
  obtain ⟨p, _, rfl⟩ := List.mem_map.1 hx
  rfl
noncomputable def orK (l : Lt) (k : Nat) : List (Tm × Tm) := (([(l.a, l.b), (l.b, l.a)].take k).filter fun p => decide (kb p.1 p.2 = 1 ∨ kb p.1 p.2 = 2)).map fun p => (p.1.strip, p.2.strip)
theorem orK_len (l : Lt) (k : Nat) : (orK l k).length ≤ 2 := by
  unfold orK
  rw [List.length_map]
  exact Nat.le_trans (List.length_filter_le _ _) (by rw [List.length_take]; exact Nat.min_le_right _ _)
theorem orK_succ (l : Lt) {k : Nat} {p : Tm × Tm} (h : [(l.a, l.b), (l.b, l.a)][k]? = some p) : orK l (k + 1) = orK l k ++ (if kb p.1 p.2 = 1 ∨ kb p.1 p.2 = 2 then [(p.1.strip, p.2.strip)] else []) := by
  unfold orK
  rw [List.take_add_one, h, List.filter_append, List.map_append]
  congr 1
  by_cases hp : kb p.1 p.2 = 1 ∨ kb p.1 p.2 = 2
  · rw [if_pos hp, Option.toList_some, List.filter_cons_of_pos (by exact decide_eq_true hp)]; rfl
  · rw [if_neg hp, Option.toList_some, List.filter_cons_of_neg (by rw [decide_eq_true_iff]; exact hp)]; rfl
-- 
theorem oOri_abs (W : World) (l : Lt) (hl : l.fit) : AFun Try.prog W 19 [l.cw] (.val (.lst ((orK l 2).map prC))) := by
  refine afun_of (rs := [.lst ((orK l 2).map prC)]) Try.func19 Try.ntmps19 rfl rfl rfl rfl ?_
  intro w U hW
  refine aS (aR ?_)
  (refine nx (a_box (gN rfl) rfl rfl rfl rfl rfl) rfl ?_)
  (refine nx (aA (gN rfl) rfl rfl rfl rfl rfl) rfl ?_)
  show AWp _ _ _ _ _ _ _
  refine aS (aR ?_)
  (refine nx (aA (gN rfl) rfl rfl rfl rfl rfl) rfl ?_)
  show AWp _ _ _ _ _ _ _
  refine aS (aS (aR ?_))
  (refine nx (aF (gN rfl) rfl rfl rfl rfl rfl rfl rfl rfl rfl) rfl ?_)
  (refine nx (aLb (gN rfl) rfl rfl rfl rfl rfl rfl rfl rfl rfl rfl rfl rfl) rfl ?_)
  (refine nx (aF (gN rfl) rfl rfl rfl rfl rfl rfl rfl rfl rfl) rfl ?_)
  (refine nx (aLb (gN rfl) rfl rfl rfl rfl rfl rfl rfl rfl rfl rfl rfl rfl) rfl ?_)
  (refine nx (a_buildA [2, 2] (gN rfl) rfl rfl rfl rfl rfl rfl rfl rfl rfl rfl rfl rfl) rfl ?_)
  (refine nx (aF (gN rfl) rfl rfl rfl rfl rfl rfl rfl rfl rfl) rfl ?_)
  (refine nx (aLb (gN rfl) rfl rfl rfl rfl rfl rfl rfl rfl rfl rfl rfl rfl) rfl ?_)
  (refine nx (aF (gN rfl) rfl rfl rfl rfl rfl rfl rfl rfl rfl) rfl ?_)
  (refine nx (aLb (gN rfl) rfl rfl rfl rfl rfl rfl rfl rfl rfl rfl rfl rfl) rfl ?_)
  (refine nx (a_buildA [2, 2] (gN rfl) rfl rfl rfl rfl rfl rfl rfl rfl rfl rfl rfl rfl) rfl ?_)
  (refine nx (a_bslice (gN rfl) rfl rfl rfl rfl rfl rfl rfl rfl rfl rfl rfl rfl rfl) rfl ?_)
  (refine nx (a_len (gN rfl) rfl rfl rfl rfl rfl rfl rfl) rfl ?_)
  (refine nx (aM (gN rfl) rfl rfl rfl rfl rfl) rfl ?_)
  show AWp _ _ _ _ _ _ _
  let st : Nat → AS := fun k => [(3, .own (.lst ((orK l k).map prC)) 200043), (200043, .tok 48 4), (17, .val (.lst ([(l.a, l.b), (l.b, l.a)].map prC))), (18, .val (.i 2)), (19, .val (.i k))]
  refine aB (awp_count 2 st ((wk_nil 3 200043 48 4 rfl rfl rfl rfl rfl rfl rfl).trans (wk_sub ⟨rfl, rfl, rfl, rfl, rfl, trivial⟩)) ?_)
  intro k hk
  have hps := prC_size [(l.a, l.b), (l.b, l.a)]
  refine aS (aR ?_)
  (refine nx (a_lss (gN rfl) rfl rfl rfl rfl rfl rfl) rfl ?_)
  show AWp _ _ _ _ _ _ _
  refine aS (aC rfl (fun hlt => ?_) (fun hlt => ?_))
  · have hkl : k < 2 := by have h : decide ((k : Int) < 2) = true := hlt; have := of_decide_eq_true h; omega
    obtain ⟨p, hp⟩ : ∃ p, [(l.a, l.b), (l.b, l.a)][k]? = some p := ⟨_, List.getElem?_eq_getElem hkl⟩
    have hpf : p.1.fit ∧ p.2.fit := by
      rcases List.mem_cons.1 (List.mem_of_getElem? hp) with rfl | h
      · exact hl
      · rcases List.mem_cons.1 h with rfl | h
        · exact ⟨hl.2, hl.1⟩
        · cases h
    have hp' : ([(l.a, l.b), (l.b, l.a)].map prC)[k]? = some (.row [p.1.cw, p.2.cw]) := by rw [List.getElem?_map, hp]; rfl
    have hl3 : ((orK l k).map prC).length ≤ 2 := by rw [List.length_map]; exact orK_len l k
    have hl4 := orK_len l k
    have hsz3 := prC_size (orK l k)
    have hS := orK_succ l hp
    have h1 := hpf.1.2.2
    have h2 := hpf.2.2.2
    refine aK ?_
    show AWp _ _ _ _ _ _ _
    refine aS (aB (aS (aR ?_)))
    (refine nx (a_index (j := k) (gN rfl) rfl rfl rfl rfl rfl rfl rfl rfl rfl (hp') rfl (hps)) rfl ?_)
    (refine nx (a_load_ad (gN rfl) rfl rfl rfl rfl rfl rfl rfl rfl rfl) rfl ?_)
    (refine nx (a_allocA [2, 2] (gN rfl) rfl rfl rfl rfl rfl rfl rfl) rfl ?_)
    (refine nx (aSt (gN rfl) rfl rfl rfl rfl rfl rfl rfl rfl rfl rfl) rfl ?_)
    show AWp _ _ _ _ _ _ _
    refine aS (aR ?_)
    (refine nx (a_idxA 0 (gN rfl) rfl rfl rfl rfl rfl rfl rfl rfl rfl rfl) rfl ?_)
    (refine nx (aLb (gN rfl) rfl rfl rfl rfl rfl rfl rfl rfl rfl rfl rfl rfl) rfl ?_)
    (refine nx (a_idxA 1 (gN rfl) rfl rfl rfl rfl rfl rfl rfl rfl rfl rfl) rfl ?_)
    (refine nx (aLb (gN rfl) rfl rfl rfl rfl rfl rfl rfl rfl rfl rfl rfl rfl) rfl ?_)
    (refine nx (a_call (gN rfl) rfl rfl rfl rfl rfl (kCmp_abs w p.1 p.2 hpf.1.1 hpf.1.2.1 (by omega) hpf.2.1 hpf.2.2.1 (by omega))) rfl ?_)
    (refine nx (aA (gN rfl) rfl rfl rfl rfl rfl) rfl ?_)
    show AWp _ _ _ _ _ _ _
    refine AWp.wk (wk_sub (s' := [(3, .own (.lst ((orK l k).map prC)) 200043), (200043, .tok 48 4), (5, .bp 5 0 []), (100005, .bx (.row [p.1.cw, p.2.cw])), (6, .val (.i (kb p.1 p.2))), (17, .val (.lst ([(l.a, l.b), (l.b, l.a)].map prC))), (18, .val (.i 2)), (19, .val (.i k))]) ⟨rfl, rfl, rfl, rfl, rfl, rfl, rfl, rfl, trivial⟩) ?_
    refine (awp_mid [(3, .own (.lst ((orK l k).map prC)) 200043), (200043, .tok 48 4), (5, .bp 5 0 []), (100005, .bx (.row [p.1.cw, p.2.cw])), (33, .val (.b (decide (kb p.1 p.2 = 1 ∨ kb p.1 p.2 = 2)))), (17, .val (.lst ([(l.a, l.b), (l.b, l.a)].map prC))), (18, .val (.i 2)), (19, .val (.i k))] ?_ ?_)
    · by_cases hk1 : kb p.1 p.2 = 1
      · have g : decide (kb p.1 p.2 = 1) = true := decide_eq_true hk1
        refine aR ?_
        (refine nx (aM (gN rfl) rfl rfl rfl rfl rfl) rfl ?_)
        (refine nx (a_eql (gN rfl) rfl rfl rfl rfl rfl rfl) rfl ?_)
        (refine nx (aM (gN rfl) rfl rfl rfl rfl rfl) rfl ?_)
        (refine ⟨_, _, _, a_off (go_off rfl rfl rfl rfl (by first | rfl | assumption | (simp; done) | (simp [*]; done))) rfl rfl rfl, rfl, ?_⟩)
        (refine ⟨_, _, _, a_off (go_off rfl rfl rfl rfl (by first | rfl | assumption | (simp; done) | (simp [*]; done))) rfl rfl rfl, rfl, ?_⟩)
        (refine ⟨_, _, _, aPt (gN rfl) rfl rfl rfl rfl rfl ?hb rfl, rfl, ?_⟩; case hb => (first | rfl | assumption | (simp; done)))
        refine wk_sub ⟨rfl, rfl, rfl, rfl, ?_, rfl, rfl, rfl, trivial⟩
        rw [decide_eq_true (Or.inl hk1)]; rfl
      · have g : decide (kb p.1 p.2 = 1) = false := decide_eq_false hk1
        refine aR ?_
        (refine nx (aM (gN rfl) rfl rfl rfl rfl rfl) rfl ?_)
        (refine nx (a_eql (gN rfl) rfl rfl rfl rfl rfl rfl) rfl ?_)
        (refine nx (aM (gN rfl) rfl rfl rfl rfl rfl) rfl ?_)
        (refine nx (aM (gd_on rfl rfl rfl rfl (by first | rfl | assumption | (simp; done))) rfl rfl rfl rfl rfl) rfl ?_)
        (refine nx (a_eql (gd_on rfl rfl rfl rfl (by first | rfl | assumption | (simp; done))) rfl rfl rfl rfl rfl rfl) rfl ?_)
        (refine ⟨_, _, _, aPf (gN rfl) rfl rfl rfl rfl rfl ?hb rfl, rfl, ?_⟩; case hb => (first | rfl | assumption | (simp; done)))
        refine wk_sub ⟨rfl, rfl, rfl, rfl, ?_, rfl, rfl, rfl, trivial⟩
        have : decide (kb p.1 p.2 = 1 ∨ kb p.1 p.2 = 2) = decide (kb p.1 p.2 = 2) := by simp [hk1]
        rw [this]; rfl
    refine aC rfl (fun hg => ?_) (fun hg => ?_)
    · have hg : decide (kb p.1 p.2 = 1 ∨ kb p.1 p.2 = 2) = true := hg
      refine aD (by kernel_rfl) (by kernel_rfl) ?_
      (refine nx (aM (gN rfl) rfl rfl rfl rfl rfl) rfl ?_)
      (refine nx (a_idxA 0 (gN rfl) rfl rfl rfl rfl rfl rfl rfl rfl rfl rfl) rfl ?_)
      (refine nx (aLb (gN rfl) rfl rfl rfl rfl rfl rfl rfl rfl rfl rfl rfl rfl) rfl ?_)
      (refine nx (a_call (gN rfl) rfl rfl rfl rfl rfl (clone_abs w hpf.1.1 (by omega))) rfl ?_)
      (refine nx (a_idxA 1 (gN rfl) rfl rfl rfl rfl rfl rfl rfl rfl rfl rfl) rfl ?_)
      (refine nx (aLb (gN rfl) rfl rfl rfl rfl rfl rfl rfl rfl rfl rfl rfl rfl) rfl ?_)
      (refine nx (a_call (gN rfl) rfl rfl rfl rfl rfl (clone_abs w hpf.2.1 (by omega))) rfl ?_)
      (refine nx (a_buildA [2, 2] (gN rfl) rfl rfl rfl rfl rfl rfl rfl rfl rfl rfl rfl rfl) rfl ?_)
      (refine nx (a_bslice (gN rfl) rfl rfl rfl rfl rfl rfl rfl rfl rfl rfl rfl rfl rfl) rfl ?_)
      (refine nx (a_app (gN rfl) rfl rfl rfl rfl rfl rfl rfl rfl rfl rfl rfl rfl rfl rfl rfl (by first | assumption | exact sZ rfl | exact Tm.size_all _ | exact Bd.size_all _ | exact ints_size _ | exact bys_size _ | exact Lt.size_all _) (by first | assumption | exact sZ rfl | exact Tm.size_all _ | exact Bd.size_all _ | exact ints_size _ | exact bys_size _ | exact Lt.size_all _) (by first | omega | (simp only [List.length_map, List.length_append, List.length_cons, List.length_nil] <;> omega) | (simp <;> omega))) rfl ?_)
      (refine nx (aA (gN rfl) rfl rfl rfl rfl rfl) rfl ?_)
      refine ⟨by kernel_rfl, ?_⟩
      show AWp _ _ _ _ _ _ _
      refine AWp.wk ((wk_sub (s' := [(3, .own (.lst ((orK l k).map prC ++ [prC (p.1.strip, p.2.strip)])) 300043), (300043, .tok 48 4), (17, .val (.lst ([(l.a, l.b), (l.b, l.a)].map prC))), (18, .val (.i 2)), (19, .val (.i k))]) ⟨rfl, rfl, rfl, rfl, rfl, trivial⟩).trans (wk_ren 300043 200043 rfl rfl rfl rfl)) ?_
      refine aR ?_
      (refine nx (a_add (gN rfl) rfl rfl rfl rfl rfl rfl (by first | omega | (simp only [List.length_map, List.length_append, List.length_cons, List.length_nil] <;> omega) | (simp <;> omega))) rfl ?_)
      (refine nx (aM (gN rfl) rfl rfl rfl rfl rfl) rfl ?_)
      refine ⟨hkl, wk_sub ⟨?_, rfl, rfl, rfl, rfl, trivial⟩⟩
      show some (AV.own (.lst _) _) = some (AV.own (.lst _) _)
      rw [hS, if_pos (of_decide_eq_true hg), List.map_append]
      rfl
    · have hg : decide (kb p.1 p.2 = 1 ∨ kb p.1 p.2 = 2) = false := hg
      refine aK ?_
      show AWp _ _ _ _ _ _ _
      refine aR ?_
      (refine nx (a_add (gN rfl) rfl rfl rfl rfl rfl rfl (by first | omega | (simp only [List.length_map, List.length_append, List.length_cons, List.length_nil] <;> omega) | (simp <;> omega))) rfl ?_)
      (refine nx (aM (gN rfl) rfl rfl rfl rfl rfl) rfl ?_)
      refine ⟨hkl, wk_sub ⟨?_, rfl, rfl, rfl, rfl, trivial⟩⟩
      show some (AV.own (.lst _) _) = some (AV.own (.lst _) _)
      rw [hS, if_neg (of_decide_eq_false hg), List.append_nil]
  · have hkl : k = 2 := by have h : decide ((k : Int) < 2) = false := hlt; have := of_decide_eq_false h; omega
    subst hkl
    refine aE ?_
    show AWp _ _ _ _ _ _ _
    refine aS (aR ?_)
    (refine nx (aM (gN rfl) rfl rfl rfl rfl rfl) rfl ?_)
    (refine nx (aA (gN rfl) rfl rfl rfl rfl rfl) rfl ?_)
    show AWp _ _ _ _ _ _ _
    exact aT (And.intro (.inr rfl) rfl)
-- 
theorem oTermsX_abs (W : World) (l : Lt) (hl : l.fit) : AFun Try.prog W 12 [l.cw] (.val (.lst (((tmsL l).map Tm.strip).map Tm.cv))) := by
  refine afun_of (rs := [.lst (((tmsL l).map Tm.strip).map Tm.cv)]) Try.func12 Try.ntmps12 rfl rfl rfl rfl ?_
  intro w U hW
  have hT := oTerms1_abs l
  rw [rwT_zero] at hT
  have hL4 := tmsL_len l
  have hTf := tmsL_mem (p := Tm.fit) hl
  obtain ⟨L, hL⟩ : ∃ L, L = tmsL l := ⟨_, rfl⟩
  rw [← hL] at hT hL4 hTf ⊢
  refine aS (aR ?_)
  (refine nx (a_box (gN rfl) rfl rfl rfl rfl rfl) rfl ?_)
  (refine nx (aA (gN rfl) rfl rfl rfl rfl rfl) rfl ?_)
  show AWp _ _ _ _ _ _ _
  refine aS (aR ?_)
  (refine nx (aL (gN rfl) rfl rfl rfl rfl rfl rfl rfl rfl rfl rfl rfl rfl) rfl ?_)
  (refine nx (a_callO (gN rfl) rfl rfl rfl rfl rfl (hT) (by repeat (first | exact trivial | refine ⟨rfl, ?_⟩)) (by first | rfl | kernel_rfl) (by first | rfl | kernel_rfl) (by first | rfl | kernel_rfl) (by first | rfl | kernel_rfl) (fun k v h => by first | (rw [hW.1] at h; cases h) | (have h2 := hU k v h; cases h2))) rfl ?_)
  (refine nx (aA (gN rfl) rfl rfl rfl rfl rfl) rfl ?_)
  show AWp _ _ _ _ _ _ _
  refine aS (aS (aR ?_))
  (refine nx (aM (gN rfl) rfl rfl rfl rfl rfl) rfl ?_)
  (refine nx (a_lenM (gN rfl) rfl rfl rfl rfl rfl rfl rfl) rfl ?_)
  (refine nx (aM (gN rfl) rfl rfl rfl rfl rfl) rfl ?_)
  show AWp _ _ _ _ _ _ _
  let row : Nat → List Tm := fun k => (L.take k).map Tm.strip ++ L.drop k
  let st : Nat → AS := fun k => [(3, .sl 400001 0 L.length 2), (8, .sl 400001 0 L.length 2), (9, .val (.i L.length)), (10, .val (.i k)), (400001, .mrow 31 2 ((row k).map Tm.cv))]
  refine aB (awp_count L.length st (wk_sub ⟨rfl, rfl, rfl, rfl, rfl, trivial⟩) ?_)
  intro k hk
  refine aS (aR ?_)
  (refine nx (a_lss (gN rfl) rfl rfl rfl rfl rfl rfl) rfl ?_)
  show AWp _ _ _ _ _ _ _
  refine aS (aC rfl (fun hlt => ?_) (fun hlt => ?_))
  · have hkl : k < L.length := by have h : decide ((k : Int) < (L.length : Int)) = true := hlt; have := of_decide_eq_true h; omega
    obtain ⟨x, hx⟩ : ∃ x, L[k]? = some x := ⟨L[k], List.getElem?_eq_getElem hkl⟩
    have hxf := hTf x (List.mem_of_getElem? hx)
    obtain ⟨r1, r2⟩ := half_at Tm.strip L hx
    have hrl : ((row k).map Tm.cv).length = L.length := by simp only [row, List.length_map, List.length_append, List.length_take, List.length_drop]; omega
    have hr1 : ((row k).map Tm.cv)[k]? = some x.cw := Tm.map_at r1
    refine aK ?_
    show AWp _ _ _ _ _ _ _
    refine aS (aB (aS (aR ?_)))
    (refine nx (aM (gN rfl) rfl rfl rfl rfl rfl) rfl ?_)
    (refine nx (aIm (k := k) (gN rfl) rfl rfl rfl rfl rfl rfl rfl rfl rfl (by first | rfl | omega | (simp only [List.length_set, List.length_map, List.length_append, List.length_cons, List.length_nil] <;> omega) | (simp <;> omega))) rfl ?_)
    (refine nx (a_loadM (gN rfl) rfl rfl rfl rfl rfl rfl rfl rfl (hr1) rfl (by first | rfl | omega | (simp only [List.length_set, List.length_map, List.length_append, List.length_cons, List.length_nil] <;> omega) | (simp <;> omega)) rfl rfl) rfl ?_)
    (refine nx (a_alloc (gN rfl) rfl rfl rfl rfl rfl rfl rfl rfl rfl rfl) rfl ?_)
    (refine nx (aA (gN rfl) rfl rfl rfl rfl rfl) rfl ?_)
    (refine nx (aSt (gN rfl) rfl rfl rfl rfl rfl rfl rfl rfl rfl rfl) rfl ?_)
    show AWp _ _ _ _ _ _ _
    refine aR ?_
    (refine nx (aM (gN rfl) rfl rfl rfl rfl rfl) rfl ?_)
    (refine nx (aM (gN rfl) rfl rfl rfl rfl rfl) rfl ?_)
    (refine nx (aL (gN rfl) rfl rfl rfl rfl rfl rfl rfl rfl rfl rfl rfl rfl) rfl ?_)
    (refine nx (a_call (gN rfl) rfl rfl rfl rfl rfl (clone_abs w hxf.1 hxf.2.2)) rfl ?_)
    (refine nx (aIm (k := k) (gN rfl) rfl rfl rfl rfl rfl rfl rfl rfl rfl (by first | rfl | omega | (simp only [List.length_set, List.length_map, List.length_append, List.length_cons, List.length_nil] <;> omega) | (simp <;> omega))) rfl ?_)
    (refine nx (a_storeM (gN rfl) rfl rfl rfl rfl rfl rfl (hr1) rfl rfl (by first | rfl | omega | (simp only [List.length_set, List.length_map, List.length_append, List.length_cons, List.length_nil] <;> omega) | (simp <;> omega)) rfl) rfl ?_)
    show AWp _ _ _ _ _ _ _
    refine aR ?_
    (refine nx (a_add (gN rfl) rfl rfl rfl rfl rfl rfl (by first | omega | (simp only [List.length_map, List.length_append, List.length_cons, List.length_nil] <;> omega) | (simp <;> omega))) rfl ?_)
    (refine nx (aM (gN rfl) rfl rfl rfl rfl rfl) rfl ?_)
    refine ⟨hkl, wk_sub ⟨rfl, rfl, rfl, rfl, ?_, trivial⟩⟩
    show some (AV.mrow _ _ _) = some (AV.mrow _ _ _)
    rw [show row (k + 1) = (row k).set k x.strip from r2.symm, List.map_set, Tm.cv_eq]
  · have hkl : k = L.length := by have h : decide ((k : Int) < (L.length : Int)) = false := hlt; have := of_decide_eq_false h; omega
    subst hkl
    have hrow : row L.length = L.map Tm.strip := by simp only [row]; rw [List.take_length, List.drop_length, List.append_nil]
    refine aE ?_
    show AWp _ _ _ _ _ _ _
    refine aS (aR ?_)
    (refine nx (aM (gN rfl) rfl rfl rfl rfl rfl) rfl ?_)
    (refine nx (aA (gN rfl) rfl rfl rfl rfl rfl) rfl ?_)
    show AWp _ _ _ _ _ _ _
    refine AWp.wk (wk_frz 2 400001 (e := 31) (z := 2) (lo := 0) (len := L.length) (l := (row L.length).map Tm.cv) rfl rfl rfl (.inl hW.2) (by rw [hrow]; simp) (s' := []) trivial rfl) ?_
    rw [hrow, List.drop_zero, List.take_of_length_le (by simp)]
    exact aT (And.intro (.inr rfl) rfl)
theorem cnt_vsK (l : List Tm) {v : Int} (hv : 0 ≤ v) : cntF (-1 - v) l = (vsL l).count v := by
  unfold cntF vsL
  induction l with
  | nil => rfl
  | cons t l ih =>
    rw [List.filter_cons, List.filter_cons]
    by_cases h : t.f = -1 - v
    · have h2 : t.f < 0 := by omega
      rw [if_pos (by simpa using h), if_pos (by simpa using h2), List.length_cons, ih, List.map_cons, List.count_cons]
      simp only [beq_iff_eq]
      rw [if_pos (by omega)]
    · rw [if_neg (by simpa using h)]
      by_cases h2 : t.f < 0
      · rw [if_pos (by simpa using h2), ih, List.map_cons, List.count_cons]
        simp only [beq_iff_eq]
        rw [if_neg (by omega)]
        rfl
      · rw [if_neg (by simpa using h2)]; exact ih
-- 
theorem rCount_abs (W : World) (t : Tm) (v : Int) (hr : t.rng) (hok : t.ok) (hts : t.size ≤ 90000000000) (hv : 0 ≤ v ∧ v ≤ 9223372036854775807) : AFun Try.prog W 77 [t.cw, .i v] (.val (.i (t.vs.count v : Nat))) := by
  rw [show t.vs.count v = cntF (-1 - v) t.flat from (cnt_vsK t.flat hv.1).symm]
  refine afun_of (rs := [.i (cntF (-1 - v) t.flat : Nat)]) Try.func77 Try.ntmps77 rfl rfl rfl rfl ?_
  intro w U hW
  refine aS (aR ?_)
  (refine nx (a_box (gN rfl) rfl rfl rfl rfl rfl) rfl ?_)
  (refine nx (aA (gN rfl) rfl rfl rfl rfl rfl) rfl ?_)
  show AWp _ _ _ _ _ _ _
  refine aS (aR ?_)
  (refine nx (aL (gN rfl) rfl rfl rfl rfl rfl rfl rfl rfl rfl rfl rfl rfl) rfl ?_)
  (refine nx (a_call (gN rfl) rfl rfl rfl rfl rfl (refFlat_abs w t hok hts)) rfl ?_)
  (refine nx (aA (gN rfl) rfl rfl rfl rfl rfl) rfl ?_)
  show AWp _ _ _ _ _ _ _
  unfold Tm.size at hts
  obtain ⟨l, hl⟩ : ∃ l, l = t.flat := ⟨_, rfl⟩
  rw [← hl] at hts ⊢
  have hsz := Tm.size_all l
  refine aS (aR ?_)
  (refine nx (aA (gN rfl) rfl rfl rfl rfl rfl) rfl ?_)
  show AWp _ _ _ _ _ _ _
  refine aS (aS (aR ?_))
  (refine nx (aA (gN rfl) rfl rfl rfl rfl rfl) rfl ?_)
  show AWp _ _ _ _ _ _ _
  refine aB (awp_count l.length (fun i => [(1, .val (.i v)), (5, .val (.lst (l.map Tm.cv))), (6, .val (.i (cntF (-1 - v) (l.take i) : Nat))), (7, .val (.i i))]) (wk_sub ⟨rfl, rfl, rfl, rfl, trivial⟩) ?_)
  intro i hi
  refine aS (aS (aR ?_))
  (refine nx (aM (gN rfl) rfl rfl rfl rfl rfl) rfl ?_)
  (refine nx (aM (gN rfl) rfl rfl rfl rfl rfl) rfl ?_)
  (refine nx (a_len (gN rfl) rfl rfl rfl rfl rfl rfl rfl) rfl ?_)
  (refine nx (a_lss (gN rfl) rfl rfl rfl rfl rfl rfl) rfl ?_)
  show AWp _ _ _ _ _ _ _
  refine aC rfl (fun hc => aK ?_) (fun hc => aE ?_)
  · have hil : i < l.length := by
      simp only [List.length_map, decide_eq_true_eq] at hc
      omega
    clear hc
    obtain ⟨s, hs⟩ : ∃ s, l[i]? = some s := ⟨l[i], List.getElem?_eq_getElem hil⟩
    have hs' := Tm.map_at hs
    have htk : l.take (i + 1) = l.take i ++ [s] := by rw [List.take_add_one, hs]; rfl
    have hcl := cntF_le (-1 - v) (l.take i)
    rw [List.length_take] at hcl
    show AWp _ _ _ _ _ _ _
    refine aS (aB (aS (aR ?_)))
    (refine nx (aM (gN rfl) rfl rfl rfl rfl rfl) rfl ?_)
    (refine nx (aM (gN rfl) rfl rfl rfl rfl rfl) rfl ?_)
    (refine nx (a_index (gN rfl) rfl rfl rfl rfl rfl rfl rfl rfl rfl (by assumption) rfl (by first | assumption | exact sZ rfl | exact Tm.size_all _ | exact Bd.size_all _ | exact ints_size _ | exact bys_size _ | exact Lt.size_all _)) rfl ?_)
    (refine nx (a_field_ad (gN rfl) rfl rfl rfl rfl rfl rfl rfl rfl rfl rfl rfl) rfl ?_)
    (refine nx (a_load_ad (gN rfl) rfl rfl rfl rfl rfl rfl rfl rfl rfl) rfl ?_)
    (refine nx (aM (gN rfl) rfl rfl rfl rfl rfl) rfl ?_)
    (refine nx (a_sub (gN rfl) rfl rfl rfl rfl rfl rfl (by first | omega | (simp only [List.length_map, List.length_append, List.length_cons, List.length_nil] <;> omega) | (simp <;> omega))) rfl ?_)
    (refine nx (a_eql (gN rfl) rfl rfl rfl rfl rfl rfl) rfl ?_)
    show AWp _ _ _ _ _ _ _
    refine aC rfl (fun hc => ?_) (fun hc => aK ?_)
    · have hsf : s.f = -1 - v := by simpa using hc
      refine aR ?_
      (refine nx (aM (gN rfl) rfl rfl rfl rfl rfl) rfl ?_)
      (refine nx (a_add (gN rfl) rfl rfl rfl rfl rfl rfl (by first | omega | (simp only [List.length_map, List.length_append, List.length_cons, List.length_nil] <;> omega) | (simp <;> omega))) rfl ?_)
      (refine nx (aA (gN rfl) rfl rfl rfl rfl rfl) rfl ?_)
      show AWp _ _ _ _ _ _ _
      refine aR ?_
      (refine nx (aM (gN rfl) rfl rfl rfl rfl rfl) rfl ?_)
      (refine nx (a_add (gN rfl) rfl rfl rfl rfl rfl rfl (by first | omega | (simp only [List.length_map, List.length_append, List.length_cons, List.length_nil] <;> omega) | (simp <;> omega))) rfl ?_)
      (refine nx (aA (gN rfl) rfl rfl rfl rfl rfl) rfl ?_)
      refine ⟨hil, wk_sub ⟨rfl, rfl, ?_, rfl, trivial⟩⟩
      rw [htk, cntF_snoc, if_pos hsf]
      rfl
    · have hsf : ¬ s.f = -1 - v := by simpa using hc
      show AWp _ _ _ _ _ _ _
      refine aR ?_
      (refine nx (aM (gN rfl) rfl rfl rfl rfl rfl) rfl ?_)
      (refine nx (a_add (gN rfl) rfl rfl rfl rfl rfl rfl (by first | omega | (simp only [List.length_map, List.length_append, List.length_cons, List.length_nil] <;> omega) | (simp <;> omega))) rfl ?_)
      (refine nx (aA (gN rfl) rfl rfl rfl rfl rfl) rfl ?_)
      refine ⟨hil, wk_sub ⟨rfl, rfl, ?_, rfl, trivial⟩⟩
      rw [htk, cntF_snoc, if_neg hsf]
      rfl
  · have hil : i = l.length := by
      simp only [List.length_map, decide_eq_false_iff_not] at hc
      omega
    subst hil
    rw [List.take_length]
    show AWp _ _ _ _ _ _ _
    refine aS (aR ?_)
    (refine nx (aM (gN rfl) rfl rfl rfl rfl rfl) rfl ?_)
    (refine nx (aA (gN rfl) rfl rfl rfl rfl rfl) rfl ?_)
    show AWp _ _ _ _ _ _ _
    exact aT ⟨.inr rfl, rfl⟩
theorem cov_vars (a b : Tm) : cov a b ↔ ∀ v ∈ b.nv, b.vs.count v ≤ a.vs.count v := by
  unfold cov Tm.nv
  constructor
  · intro h v _; exact h v
  · intro h v
    by_cases hv : v ∈ b.vs
    · exact h v ((mem_nub _ v).2 hv)
    · rw [List.count_eq_zero_of_not_mem hv]; omega
theorem vs_rng {t : Tm} (hr : t.rng) : ∀ v ∈ t.vs, 0 ≤ v ∧ v ≤ 9223372036854775807 := by
  intro v hv
  unfold Tm.vs vsL at hv
  obtain ⟨s, hs, rfl⟩ := List.mem_map.1 hv
  rw [List.mem_filter] at hs
  have h1 := Tm.rng_flat hr s hs.1
  have h2 : s.f < 0 := by simpa using hs.2
  omega
-- 
theorem rCovers_abs (W : World) (a b : Tm) (ha : a.rng) (hao : a.ok) (has : a.size ≤ 90000000000) (hb : b.rng) (hbo : b.ok) (hbs : b.size ≤ 90000000000) : AFun Try.prog W 57 [a.cw, b.cw] (.val (.b (covB a b))) := by
  refine afun_of (rs := [.b (covB a b)]) Try.func57 Try.ntmps57 rfl rfl rfl rfl ?_
  intro w U hW
  have hvl := varsF_len b.flat
  refine aS (aR ?_)
  (refine nx (a_box (gN rfl) rfl rfl rfl rfl rfl) rfl ?_)
  (refine nx (a_box (gN rfl) rfl rfl rfl rfl rfl) rfl ?_)
  (refine nx (aA (gN rfl) rfl rfl rfl rfl rfl) rfl ?_)
  show AWp _ _ _ _ _ _ _
  have f1 := refVars_abs w b hb hbo hbs
  rw [nv_vars] at f1 hvl
  refine aS (aR ?_)
  (refine nx (aL (gN rfl) rfl rfl rfl rfl rfl rfl rfl rfl rfl rfl rfl rfl) rfl ?_)
  (refine nx (a_call (gN rfl) rfl rfl rfl rfl rfl (f1)) rfl ?_)
  (refine nx (aA (gN rfl) rfl rfl rfl rfl rfl) rfl ?_)
  show AWp _ _ _ _ _ _ _
  have hvr : ∀ v ∈ b.nv, 0 ≤ v ∧ v ≤ 9223372036854775807 := fun v hv => vs_rng hb v ((mem_nub _ v).1 hv)
  have hcv := cov_vars a b
  obtain ⟨l, hl⟩ : ∃ l, l = b.nv := ⟨_, rfl⟩
  rw [← hl] at hvl hvr hcv ⊢
  unfold Tm.size at hbs
  have hsz := ints_size l
  refine aS (aS (aR ?_))
  (refine nx (aA (gN rfl) rfl rfl rfl rfl rfl) rfl ?_)
  show AWp _ _ _ _ _ _ _
  refine aB (awp_countI l.length (fun i => ∀ j v, j < i → l[j]? = some v → b.vs.count v ≤ a.vs.count v) (fun i => [(2, .bp 2 0 []), (100002, .bx a.cw), (3, .bp 3 0 []), (100003, .bx b.cw), (5, .val (.lst (l.map CV.i))), (6, .val (.i i))]) (wk_sub ⟨rfl, rfl, rfl, rfl, rfl, rfl, trivial⟩) (fun j v hj => by omega) ?_)
  intro i hi hI
  refine aS (aS (aR ?_))
  (refine nx (aM (gN rfl) rfl rfl rfl rfl rfl) rfl ?_)
  (refine nx (aM (gN rfl) rfl rfl rfl rfl rfl) rfl ?_)
  (refine nx (a_len (gN rfl) rfl rfl rfl rfl rfl rfl rfl) rfl ?_)
  (refine nx (a_lss (gN rfl) rfl rfl rfl rfl rfl rfl) rfl ?_)
  show AWp _ _ _ _ _ _ _
  refine aC rfl (fun hc => aK ?_) (fun hc => aE ?_)
  · have hil : i < l.length := by
      simp only [List.length_map, decide_eq_true_eq] at hc
      omega
    clear hc
    obtain ⟨v, hv⟩ : ∃ v, l[i]? = some v := ⟨l[i], List.getElem?_eq_getElem hil⟩
    have hv' := ints_at hv
    have hvm := List.mem_of_getElem? hv
    have c1 := rCount_abs w b v hb hbo (by unfold Tm.size; omega) (hvr v hvm)
    have c2 := rCount_abs w a v ha hao has (hvr v hvm)
    show AWp _ _ _ _ _ _ _
    refine aS (aB (aS (aD (by kernel_rfl) (by kernel_rfl) ?_)))
    (refine nx (aL (gN rfl) rfl rfl rfl rfl rfl rfl rfl rfl rfl rfl rfl rfl) rfl ?_)
    (refine nx (aM (gN rfl) rfl rfl rfl rfl rfl) rfl ?_)
    (refine nx (aM (gN rfl) rfl rfl rfl rfl rfl) rfl ?_)
    (refine nx (a_index (j := i) (gN rfl) rfl rfl rfl rfl rfl rfl rfl rfl rfl (hv') rfl (hsz)) rfl ?_)
    (refine nx (a_load_ad (gN rfl) rfl rfl rfl rfl rfl rfl rfl rfl rfl) rfl ?_)
    (refine nx (a_call (gN rfl) rfl rfl rfl rfl rfl (c1)) rfl ?_)
    (refine nx (aL (gN rfl) rfl rfl rfl rfl rfl rfl rfl rfl rfl rfl rfl rfl) rfl ?_)
    (refine nx (aM (gN rfl) rfl rfl rfl rfl rfl) rfl ?_)
    (refine nx (aM (gN rfl) rfl rfl rfl rfl rfl) rfl ?_)
    (refine nx (a_index (j := i) (gN rfl) rfl rfl rfl rfl rfl rfl rfl rfl rfl (hv') rfl (hsz)) rfl ?_)
    (refine nx (a_load_ad (gN rfl) rfl rfl rfl rfl rfl rfl rfl rfl rfl) rfl ?_)
    (refine nx (a_call (gN rfl) rfl rfl rfl rfl rfl (c2)) rfl ?_)
    (refine nx (a_gtr (gN rfl) rfl rfl rfl rfl rfl rfl) rfl ?_)
    refine ⟨by kernel_rfl, ?_⟩
    show AWp _ _ _ _ _ _ _
    refine aC rfl (fun hc => ?_) (fun hc => aK ?_)
    · have hn : ¬ b.vs.count v ≤ a.vs.count v := by
        have := of_decide_eq_true hc
        omega
      have hcf : covB a b = false := by
        rw [← Bool.not_eq_true, covB_iff, hcv]
        exact fun h => hn (h v hvm)
      rw [hcf]
      refine aS (aR ?_)
      (refine nx (aA (gN rfl) rfl rfl rfl rfl rfl) rfl ?_)
      show AWp _ _ _ _ _ _ _
      exact aT ⟨.inr rfl, rfl⟩
    · have hn : b.vs.count v ≤ a.vs.count v := by
        have := of_decide_eq_false hc
        omega
      show AWp _ _ _ _ _ _ _
      refine aR ?_
      (refine nx (aM (gN rfl) rfl rfl rfl rfl rfl) rfl ?_)
      (refine nx (a_add (gN rfl) rfl rfl rfl rfl rfl rfl (by first | omega | (simp only [List.length_map, List.length_append, List.length_cons, List.length_nil] <;> omega) | (simp <;> omega))) rfl ?_)
      (refine nx (aA (gN rfl) rfl rfl rfl rfl rfl) rfl ?_)
      refine ⟨hil, fun j u hj hu => ?_, wk_sub ⟨rfl, rfl, rfl, rfl, rfl, rfl, trivial⟩⟩
      rcases Nat.lt_or_ge j i with h | h
      · exact hI j u h hu
      · have : j = i := by omega
        subst this
        rw [hv] at hu
        cases hu
        exact hn
  · have hil : i = l.length := by
      simp only [List.length_map, decide_eq_false_iff_not] at hc
      omega
    subst hil
    have hcf : covB a b = true := by
      rw [covB_iff, hcv]
      intro v hv
      obtain ⟨j, hj⟩ := List.getElem?_of_mem hv
      refine hI j v ?_ hj
      rcases Nat.lt_or_ge j l.length with h | h
      · exact h
      · rw [List.getElem?_eq_none h] at hj; cases hj
    rw [hcf]
    show AWp _ _ _ _ _ _ _
    refine aS (aR ?_)
    (refine nx (aA (gN rfl) rfl rfl rfl rfl rfl) rfl ?_)
    show AWp _ _ _ _ _ _ _
    exact aT ⟨.inr rfl, rfl⟩
theorem same_kb (a b : Tm) : sameT a b = decide (kb a b = 0) := by rw [Bool.eq_iff_iff, sameT_iff, decide_eq_true_iff, kb_zero]
-- 
set_option maxHeartbeats 2000000 in
theorem rGreater_abs (W : World) : ∀ a : Tm, a.rng → a.ok → a.size ≤ 90000000000 → ∀ b : Tm, b.rng → b.ok → b.size ≤ 90000000000 → AFun Try.prog W 41 [a.cw, b.cw] (.val (.b (decide (kb a b = 1)))) := by
  intro a
  induction a using Tm.ind generalizing W with
  | h f l ih =>
  intro ha hao has b hb hbo hbs
  obtain ⟨a, hae⟩ : ∃ a, a = Tm.mk f l := ⟨_, rfl⟩
  have hfa : a.f = f := by rw [hae]
  have hla : a.l = l := by rw [hae]
  rw [← hae] at ha hao has ⊢
  rw [← hla] at ih
  clear hae hfa hla
  have hok' := (Tm.ok_iff _).1 hao
  have hr' := (Tm.rng_iff _).1 ha
  have hbok' := (Tm.ok_iff _).1 hbo
  have hbr' := (Tm.rng_iff _).1 hb
  have hsz := Tm.size_all a.l
  have hsz2 := Tm.size_all b.l
  obtain ⟨K, hK⟩ : ∃ K, K = decide (kb a b = 1) := ⟨_, rfl⟩
  rw [← hK]
  refine afun_of (rs := [.b K]) Try.func41 Try.ntmps41 rfl rfl rfl rfl ?_
  intro w U hW
  refine aS (aR ?_)
  (refine nx (a_box (gN rfl) rfl rfl rfl rfl rfl) rfl ?_)
  (refine nx (a_box (gN rfl) rfl rfl rfl rfl rfl) rfl ?_)
  (refine nx (aA (gN rfl) rfl rfl rfl rfl rfl) rfl ?_)
  show AWp _ _ _ _ _ _ _
  have s1 := refSame_abs w a b hao hbo
  have c1 := rCovers_abs w a b ha hao has hb hbo hbs
  by_cases hs : sameT a b = true
  · have hk : kb a b = 0 := by rw [same_kb] at hs; exact of_decide_eq_true hs
    rw [hs] at s1
    rw [hK, hk]
    refine aS (aS (aR ?_))
    (refine nx (aL (gN rfl) rfl rfl rfl rfl rfl rfl rfl rfl rfl rfl rfl rfl) rfl ?_)
    (refine nx (aL (gN rfl) rfl rfl rfl rfl rfl rfl rfl rfl rfl rfl rfl rfl) rfl ?_)
    (refine nx (a_call (gN rfl) rfl rfl rfl rfl rfl (s1)) rfl ?_)
    (refine nx (aM (gN rfl) rfl rfl rfl rfl rfl) rfl ?_)
    (refine ⟨_, _, _, a_off (go_off rfl rfl rfl rfl (by first | rfl | assumption | (simp; done) | (simp [*]; done))) rfl rfl rfl, rfl, ?_⟩)
    (refine ⟨_, _, _, a_off (go_off rfl rfl rfl rfl (by first | rfl | assumption | (simp; done) | (simp [*]; done))) rfl rfl rfl, rfl, ?_⟩)
    (refine ⟨_, _, _, a_off (go_off rfl rfl rfl rfl (by first | rfl | assumption | (simp; done) | (simp [*]; done))) rfl rfl rfl, rfl, ?_⟩)
    (refine ⟨_, _, _, a_off (go_off rfl rfl rfl rfl (by first | rfl | assumption | (simp; done) | (simp [*]; done))) rfl rfl rfl, rfl, ?_⟩)
    (refine ⟨_, _, _, aPt (gN rfl) rfl rfl rfl rfl rfl ?hb rfl, rfl, ?_⟩; case hb => (first | rfl | assumption | (simp; done)))
    show AWp _ _ _ _ _ _ _
    refine aC rfl (fun hc => ?_) (fun hc => by cases hc)
    refine aS (aR ?_)
    (refine nx (aA (gN rfl) rfl rfl rfl rfl rfl) rfl ?_)
    show AWp _ _ _ _ _ _ _
    exact aT ⟨.inr rfl, rfl⟩
  have hs : sameT a b = false := by simpa using hs
  have hk0 : kb a b ≠ 0 := by rw [same_kb] at hs; exact of_decide_eq_false hs
  rw [hs] at s1
  by_cases hcv : covB a b = true
  case neg =>
    have hk : ¬ kb a b = 1 := fun h => hcv ((covB_iff a b).2 ((kb_one a b).1 h).1)
    have hcv : covB a b = false := by simpa using hcv
    rw [hcv] at c1
    have hK0 : K = false := by rw [hK]; simpa using hk
    rw [hK0]
    refine aS (aS (aR ?_))
    (refine nx (aL (gN rfl) rfl rfl rfl rfl rfl rfl rfl rfl rfl rfl rfl rfl) rfl ?_)
    (refine nx (aL (gN rfl) rfl rfl rfl rfl rfl rfl rfl rfl rfl rfl rfl rfl) rfl ?_)
    (refine nx (a_call (gN rfl) rfl rfl rfl rfl rfl (s1)) rfl ?_)
    (refine nx (aM (gN rfl) rfl rfl rfl rfl rfl) rfl ?_)
    (refine nx (aL (gd_on rfl rfl rfl rfl (by first | rfl | assumption | (simp; done))) rfl rfl rfl rfl rfl rfl rfl rfl rfl rfl rfl rfl) rfl ?_)
    (refine nx (aL (gd_on rfl rfl rfl rfl (by first | rfl | assumption | (simp; done))) rfl rfl rfl rfl rfl rfl rfl rfl rfl rfl rfl rfl) rfl ?_)
    (refine nx (a_call (gd_on rfl rfl rfl rfl (by first | rfl | assumption | (simp; done))) rfl rfl rfl rfl rfl (c1)) rfl ?_)
    (refine nx (a_not (gd_on rfl rfl rfl rfl (by first | rfl | assumption | (simp; done))) rfl rfl rfl rfl rfl) rfl ?_)
    (refine ⟨_, _, _, aPf (gN rfl) rfl rfl rfl rfl rfl ?hb rfl, rfl, ?_⟩; case hb => (first | rfl | assumption | (simp; done)))
    show AWp _ _ _ _ _ _ _
    refine aC rfl (fun hc => ?_) (fun hc => by cases hc)
    refine aS (aR ?_)
    (refine nx (aA (gN rfl) rfl rfl rfl rfl rfl) rfl ?_)
    show AWp _ _ _ _ _ _ _
    exact aT ⟨.inr rfl, rfl⟩
  have hcov := (covB_iff a b).1 hcv
  rw [hcv] at c1
  refine aS (aS (aR ?_))
  (refine nx (aL (gN rfl) rfl rfl rfl rfl rfl rfl rfl rfl rfl rfl rfl rfl) rfl ?_)
  (refine nx (aL (gN rfl) rfl rfl rfl rfl rfl rfl rfl rfl rfl rfl rfl rfl) rfl ?_)
  (refine nx (a_call (gN rfl) rfl rfl rfl rfl rfl (s1)) rfl ?_)
  (refine nx (aM (gN rfl) rfl rfl rfl rfl rfl) rfl ?_)
  (refine nx (aL (gd_on rfl rfl rfl rfl (by first | rfl | assumption | (simp; done))) rfl rfl rfl rfl rfl rfl rfl rfl rfl rfl rfl rfl) rfl ?_)
  (refine nx (aL (gd_on rfl rfl rfl rfl (by first | rfl | assumption | (simp; done))) rfl rfl rfl rfl rfl rfl rfl rfl rfl rfl rfl rfl) rfl ?_)
  (refine nx (a_call (gd_on rfl rfl rfl rfl (by first | rfl | assumption | (simp; done))) rfl rfl rfl rfl rfl (c1)) rfl ?_)
  (refine nx (a_not (gd_on rfl rfl rfl rfl (by first | rfl | assumption | (simp; done))) rfl rfl rfl rfl rfl) rfl ?_)
  (refine ⟨_, _, _, aPf (gN rfl) rfl rfl rfl rfl rfl ?hb rfl, rfl, ?_⟩; case hb => (first | rfl | assumption | (simp; done)))
  show AWp _ _ _ _ _ _ _
  refine aC rfl (fun hc => by cases hc) (fun hc => aK ?_)
  show AWp _ _ _ _ _ _ _
  refine aS (aD (by kernel_rfl) (by kernel_rfl) ?_)
  (refine nx (aL (gN rfl) rfl rfl rfl rfl rfl rfl rfl rfl rfl rfl rfl rfl) rfl ?_)
  (refine nx (a_call (gN rfl) rfl rfl rfl rfl rfl (refFlat_abs w a hao has)) rfl ?_)
  (refine nx (a_len (gN rfl) rfl rfl rfl rfl rfl rfl rfl) rfl ?_)
  (refine nx (aL (gN rfl) rfl rfl rfl rfl rfl rfl rfl rfl rfl rfl rfl rfl) rfl ?_)
  (refine nx (a_call (gN rfl) rfl rfl rfl rfl rfl (refFlat_abs w b hbo hbs)) rfl ?_)
  (refine nx (a_len (gN rfl) rfl rfl rfl rfl rfl rfl rfl) rfl ?_)
  (refine nx (aA (gN rfl) rfl rfl rfl rfl rfl) rfl ?_)
  (refine nx (aA (gN rfl) rfl rfl rfl rfl rfl) rfl ?_)
  refine ⟨by kernel_rfl, ?_⟩
  show AWp _ _ _ _ _ _ _
  have ea : (a.flat.map Tm.cv).length = a.size := List.length_map ..
  have eb : (b.flat.map Tm.cv).length = b.size := List.length_map ..
  have hKeq : K = true ↔ b.size < a.size ∨ (a.size = b.size ∧ wi a b = 1) := by
    rw [hK, decide_eq_true_iff, kb_one]
    exact ⟨fun h => h.2, fun h => ⟨hcov, h⟩⟩
  refine AWp.wk (wk_sub (s' := [(2, AV.bp 2 0 []), (100002, .bx a.cw), (3, .bp 3 0 []), (100003, .bx b.cw), (5, .val (.i (a.size : Int))), (6, .val (.i (b.size : Int)))]) ⟨rfl, rfl, rfl, rfl, ?_, ?_, trivial⟩) ?_
  · rw [← ea]; rfl
  · rw [← eb]; rfl
  by_cases hmn : a.size = b.size
  case neg =>
    have g : decide ((a.size : Int) ≠ (b.size : Int)) = true := by simp; omega
    have hr : decide ((a.size : Int) > (b.size : Int)) = K := by
      rw [Bool.eq_iff_iff, decide_eq_true_iff, hKeq]
      omega
    refine aS (aS (aR ?_))
    (refine nx (aM (gN rfl) rfl rfl rfl rfl rfl) rfl ?_)
    (refine nx (aM (gN rfl) rfl rfl rfl rfl rfl) rfl ?_)
    (refine nx (a_neq (gN rfl) rfl rfl rfl rfl rfl rfl) rfl ?_)
    (refine nx (aM (gN rfl) rfl rfl rfl rfl rfl) rfl ?_)
    (refine ⟨_, _, _, a_off (go_off rfl rfl rfl rfl (by first | rfl | assumption | (simp; done) | (simp [*]; done))) rfl rfl rfl, rfl, ?_⟩)
    (refine ⟨_, _, _, a_off (go_off rfl rfl rfl rfl (by first | rfl | assumption | (simp; done) | (simp [*]; done))) rfl rfl rfl, rfl, ?_⟩)
    (refine ⟨_, _, _, a_off (go_off rfl rfl rfl rfl (by first | rfl | assumption | (simp; done) | (simp [*]; done))) rfl rfl rfl, rfl, ?_⟩)
    (refine ⟨_, _, _, aPt (gN rfl) rfl rfl rfl rfl rfl ?hb rfl, rfl, ?_⟩; case hb => (first | rfl | assumption | (simp; done)))
    (refine nx (aM (gN rfl) rfl rfl rfl rfl rfl) rfl ?_)
    (refine ⟨_, _, _, a_off (go_off rfl rfl rfl rfl (by first | rfl | assumption | (simp; done) | (simp [*]; done))) rfl rfl rfl, rfl, ?_⟩)
    (refine ⟨_, _, _, a_off (go_off rfl rfl rfl rfl (by first | rfl | assumption | (simp; done) | (simp [*]; done))) rfl rfl rfl, rfl, ?_⟩)
    (refine ⟨_, _, _, a_off (go_off rfl rfl rfl rfl (by first | rfl | assumption | (simp; done) | (simp [*]; done))) rfl rfl rfl, rfl, ?_⟩)
    (refine ⟨_, _, _, aPt (gN rfl) rfl rfl rfl rfl rfl ?hb rfl, rfl, ?_⟩; case hb => (first | rfl | assumption | (simp; done)))
    show AWp _ _ _ _ _ _ _
    refine aC rfl (fun hc => ?_) (fun hc => by cases hc)
    refine aS (aR ?_)
    (refine nx (aM (gN rfl) rfl rfl rfl rfl rfl) rfl ?_)
    (refine nx (aM (gN rfl) rfl rfl rfl rfl rfl) rfl ?_)
    (refine nx (a_gtr (gN rfl) rfl rfl rfl rfl rfl rfl) rfl ?_)
    (refine nx (aA (gN rfl) rfl rfl rfl rfl rfl) rfl ?_)
    show AWp _ _ _ _ _ _ _
    refine aT ⟨.inr rfl, ?_⟩
    rw [← hr]; rfl
  have g : decide ((a.size : Int) ≠ (b.size : Int)) = false := by simp; omega
  have hr : decide ((a.size : Int) > (b.size : Int)) = false := by simp; omega
  by_cases haf : a.f < 0
  · have g2 : decide (a.f < 0) = true := by simpa using haf
    have hK0 : K = false := by
      rw [← Bool.not_eq_true, hKeq, wi_one]
      omega
    refine aS (aS (aR ?_))
    (refine nx (aM (gN rfl) rfl rfl rfl rfl rfl) rfl ?_)
    (refine nx (aM (gN rfl) rfl rfl rfl rfl rfl) rfl ?_)
    (refine nx (a_neq (gN rfl) rfl rfl rfl rfl rfl rfl) rfl ?_)
    (refine nx (aM (gN rfl) rfl rfl rfl rfl rfl) rfl ?_)
    (refine nx (aF (gd_on rfl rfl rfl rfl (by first | rfl | assumption | (simp; done))) rfl rfl rfl rfl rfl rfl rfl rfl rfl) rfl ?_)
    (refine nx (aLb (gd_on rfl rfl rfl rfl (by first | rfl | assumption | (simp; done))) rfl rfl rfl rfl rfl rfl rfl rfl rfl rfl rfl rfl) rfl ?_)
    (refine nx (a_lss (gd_on rfl rfl rfl rfl (by first | rfl | assumption | (simp; done))) rfl rfl rfl rfl rfl rfl) rfl ?_)
    (refine ⟨_, _, _, aPf (gN rfl) rfl rfl rfl rfl rfl ?hb rfl, rfl, ?_⟩; case hb => (first | rfl | assumption | (simp; done)))
    (refine nx (aM (gN rfl) rfl rfl rfl rfl rfl) rfl ?_)
    (refine ⟨_, _, _, a_off (go_off rfl rfl rfl rfl (by first | rfl | assumption | (simp; done) | (simp [*]; done))) rfl rfl rfl, rfl, ?_⟩)
    (refine ⟨_, _, _, a_off (go_off rfl rfl rfl rfl (by first | rfl | assumption | (simp; done) | (simp [*]; done))) rfl rfl rfl, rfl, ?_⟩)
    (refine ⟨_, _, _, a_off (go_off rfl rfl rfl rfl (by first | rfl | assumption | (simp; done) | (simp [*]; done))) rfl rfl rfl, rfl, ?_⟩)
    (refine ⟨_, _, _, aPt (gN rfl) rfl rfl rfl rfl rfl ?hb rfl, rfl, ?_⟩; case hb => (first | rfl | assumption | (simp; done)))
    show AWp _ _ _ _ _ _ _
    refine aC rfl (fun hc => ?_) (fun hc => by cases hc)
    refine aS (aR ?_)
    (refine nx (aM (gN rfl) rfl rfl rfl rfl rfl) rfl ?_)
    (refine nx (aM (gN rfl) rfl rfl rfl rfl rfl) rfl ?_)
    (refine nx (a_gtr (gN rfl) rfl rfl rfl rfl rfl rfl) rfl ?_)
    (refine nx (aA (gN rfl) rfl rfl rfl rfl rfl) rfl ?_)
    show AWp _ _ _ _ _ _ _
    refine aT ⟨.inr rfl, ?_⟩
    rw [hK0, ← hr]; rfl
  have g2 : decide (a.f < 0) = false := by simpa using haf
  refine aS (aS (aR ?_))
  (refine nx (aM (gN rfl) rfl rfl rfl rfl rfl) rfl ?_)
  (refine nx (aM (gN rfl) rfl rfl rfl rfl rfl) rfl ?_)
  (refine nx (a_neq (gN rfl) rfl rfl rfl rfl rfl rfl) rfl ?_)
  (refine nx (aM (gN rfl) rfl rfl rfl rfl rfl) rfl ?_)
  (refine nx (aF (gd_on rfl rfl rfl rfl (by first | rfl | assumption | (simp; done))) rfl rfl rfl rfl rfl rfl rfl rfl rfl) rfl ?_)
  (refine nx (aLb (gd_on rfl rfl rfl rfl (by first | rfl | assumption | (simp; done))) rfl rfl rfl rfl rfl rfl rfl rfl rfl rfl rfl rfl) rfl ?_)
  (refine nx (a_lss (gd_on rfl rfl rfl rfl (by first | rfl | assumption | (simp; done))) rfl rfl rfl rfl rfl rfl) rfl ?_)
  (refine ⟨_, _, _, aPf (gN rfl) rfl rfl rfl rfl rfl ?hb rfl, rfl, ?_⟩; case hb => (first | rfl | assumption | (simp; done)))
  (refine nx (aM (gN rfl) rfl rfl rfl rfl rfl) rfl ?_)
  (refine nx (aF (gd_on rfl rfl rfl rfl (by first | rfl | assumption | (simp; done))) rfl rfl rfl rfl rfl rfl rfl rfl rfl) rfl ?_)
  (refine nx (aLb (gd_on rfl rfl rfl rfl (by first | rfl | assumption | (simp; done))) rfl rfl rfl rfl rfl rfl rfl rfl rfl rfl rfl rfl) rfl ?_)
  (refine nx (a_lss (gd_on rfl rfl rfl rfl (by first | rfl | assumption | (simp; done))) rfl rfl rfl rfl rfl rfl) rfl ?_)
  (refine ⟨_, _, _, aPf (gN rfl) rfl rfl rfl rfl rfl ?hb rfl, rfl, ?_⟩; case hb => (first | rfl | assumption | (simp; done)))
  show AWp _ _ _ _ _ _ _
  refine aC rfl (fun hc => ?_) (fun hc => aK ?_)
  · have hbf : b.f < 0 := by simpa using hc
    have hK0 : K = false := by
      rw [← Bool.not_eq_true, hKeq, wi_one]
      omega
    refine aS (aR ?_)
    (refine nx (aM (gN rfl) rfl rfl rfl rfl rfl) rfl ?_)
    (refine nx (aM (gN rfl) rfl rfl rfl rfl rfl) rfl ?_)
    (refine nx (a_gtr (gN rfl) rfl rfl rfl rfl rfl rfl) rfl ?_)
    (refine nx (aA (gN rfl) rfl rfl rfl rfl rfl) rfl ?_)
    show AWp _ _ _ _ _ _ _
    refine aT ⟨.inr rfl, ?_⟩
    rw [hK0, ← hr]; rfl
  have hbf : ¬ b.f < 0 := by simpa using hc
  clear hc
  have hKw : K = true ↔ b.f < a.f ∨ (a.f = b.f ∧ (b.l.length < a.l.length ∨ (a.l.length = b.l.length ∧ kbs a.l b.l = 1))) := by
    rw [hKeq, wi_one]
    constructor
    · rintro (h | ⟨_, _, _, h⟩)
      · omega
      · exact h
    · intro h; exact .inr ⟨hmn, haf, hbf, h⟩
  show AWp _ _ _ _ _ _ _
  refine aS (aS (aR ?_))
  (refine nx (aF (gN rfl) rfl rfl rfl rfl rfl rfl rfl rfl rfl) rfl ?_)
  (refine nx (aLb (gN rfl) rfl rfl rfl rfl rfl rfl rfl rfl rfl rfl rfl rfl) rfl ?_)
  (refine nx (aF (gN rfl) rfl rfl rfl rfl rfl rfl rfl rfl rfl) rfl ?_)
  (refine nx (aLb (gN rfl) rfl rfl rfl rfl rfl rfl rfl rfl rfl rfl rfl rfl) rfl ?_)
  (refine nx (a_neq (gN rfl) rfl rfl rfl rfl rfl rfl) rfl ?_)
  show AWp _ _ _ _ _ _ _
  refine aC rfl (fun hc => ?_) (fun hc => aK ?_)
  · have hne : a.f ≠ b.f := by simpa using hc
    have hr : decide (a.f > b.f) = K := by
      rw [Bool.eq_iff_iff, decide_eq_true_iff, hKw]
      omega
    refine aS (aR ?_)
    (refine nx (aF (gN rfl) rfl rfl rfl rfl rfl rfl rfl rfl rfl) rfl ?_)
    (refine nx (aLb (gN rfl) rfl rfl rfl rfl rfl rfl rfl rfl rfl rfl rfl rfl) rfl ?_)
    (refine nx (aF (gN rfl) rfl rfl rfl rfl rfl rfl rfl rfl rfl) rfl ?_)
    (refine nx (aLb (gN rfl) rfl rfl rfl rfl rfl rfl rfl rfl rfl rfl rfl rfl) rfl ?_)
    (refine nx (a_gtr (gN rfl) rfl rfl rfl rfl rfl rfl) rfl ?_)
    (refine nx (aA (gN rfl) rfl rfl rfl rfl rfl) rfl ?_)
    show AWp _ _ _ _ _ _ _
    refine aT ⟨.inr rfl, ?_⟩
    rw [← hr]; rfl
  have hff : a.f = b.f := by simpa using hc
  clear hc
  show AWp _ _ _ _ _ _ _
  refine aS (aS (aR ?_))
  (refine nx (aF (gN rfl) rfl rfl rfl rfl rfl rfl rfl rfl rfl) rfl ?_)
  (refine nx (aLb (gN rfl) rfl rfl rfl rfl rfl rfl rfl rfl rfl rfl rfl rfl) rfl ?_)
  (refine nx (a_len (gN rfl) rfl rfl rfl rfl rfl rfl rfl) rfl ?_)
  (refine nx (aF (gN rfl) rfl rfl rfl rfl rfl rfl rfl rfl rfl) rfl ?_)
  (refine nx (aLb (gN rfl) rfl rfl rfl rfl rfl rfl rfl rfl rfl rfl rfl rfl) rfl ?_)
  (refine nx (a_len (gN rfl) rfl rfl rfl rfl rfl rfl rfl) rfl ?_)
  (refine nx (a_neq (gN rfl) rfl rfl rfl rfl rfl rfl) rfl ?_)
  show AWp _ _ _ _ _ _ _
  refine aC rfl (fun hc => ?_) (fun hc => aK ?_)
  · have hne : a.l.length ≠ b.l.length := by
      have := of_decide_eq_true hc
      simp only [List.length_map] at this
      omega
    have hr : decide (((a.l.map Tm.cv).length : Int) > ((b.l.map Tm.cv).length : Int)) = K := by
      rw [Bool.eq_iff_iff, decide_eq_true_iff, hKw, List.length_map, List.length_map]
      omega
    refine aS (aR ?_)
    (refine nx (aF (gN rfl) rfl rfl rfl rfl rfl rfl rfl rfl rfl) rfl ?_)
    (refine nx (aLb (gN rfl) rfl rfl rfl rfl rfl rfl rfl rfl rfl rfl rfl rfl) rfl ?_)
    (refine nx (a_len (gN rfl) rfl rfl rfl rfl rfl rfl rfl) rfl ?_)
    (refine nx (aF (gN rfl) rfl rfl rfl rfl rfl rfl rfl rfl rfl) rfl ?_)
    (refine nx (aLb (gN rfl) rfl rfl rfl rfl rfl rfl rfl rfl rfl rfl rfl rfl) rfl ?_)
    (refine nx (a_len (gN rfl) rfl rfl rfl rfl rfl rfl rfl) rfl ?_)
    (refine nx (a_gtr (gN rfl) rfl rfl rfl rfl rfl rfl) rfl ?_)
    (refine nx (aA (gN rfl) rfl rfl rfl rfl rfl) rfl ?_)
    show AWp _ _ _ _ _ _ _
    refine aT ⟨.inr rfl, ?_⟩
    rw [← hr]; rfl
  have hll : a.l.length = b.l.length := by
    have := of_decide_eq_false hc
    simp only [List.length_map] at this
    omega
  clear hc
  show AWp _ _ _ _ _ _ _
  refine aS (aR ?_)
  (refine nx (aA (gN rfl) rfl rfl rfl rfl rfl) rfl ?_)
  show AWp _ _ _ _ _ _ _
  refine aS ?_
  refine aB (awp_countI a.l.length (fun k => ∀ (j : Nat) u v, j < k → a.l[j]? = some u → b.l[j]? = some v → kb u v = 0) (fun k => [(2, .bp 2 0 []), (100002, .bx a.cw), (3, .bp 3 0 []), (100003, .bx b.cw), (7, .val (.i k))]) (wk_sub ⟨rfl, rfl, rfl, rfl, rfl, trivial⟩) (fun j u v hj => by omega) ?_)
  intro k hk hI
  have hkl : k < a.l.length := by
    rcases Nat.lt_or_ge k a.l.length with h | h
    · exact h
    · exfalso
      obtain ⟨e1, e2⟩ := scs_none (l := a.l) (m := b.l) fun j u v hu hv => hI j u v (by
        rcases Nat.lt_or_ge j a.l.length with h | h
        · omega
        · rw [List.getElem?_eq_none h] at hu; cases hu) hu hv
      apply hk0
      rw [kb_eq, verd_zero]
      unfold wi
      rw [Tm.ps_of_sym (t := a) (by omega), Tm.ps_of_sym (t := b) (by omega), if_neg (by omega)]
      exact e2
  obtain ⟨x, hx⟩ : ∃ x, a.l[k]? = some x := ⟨a.l[k], List.getElem?_eq_getElem hkl⟩
  obtain ⟨y, hy⟩ : ∃ y, b.l[k]? = some y := ⟨b.l[k]'(by omega), List.getElem?_eq_getElem (by omega)⟩
  have hx' := Tm.map_at hx
  have hy' := Tm.map_at hy
  have hxm := List.mem_of_getElem? hx
  have hym := List.mem_of_getElem? hy
  have hxs := Tm.size_part (t := a) (s := x) (by rw [Tm.ps_of_sym (by omega)]; exact hxm)
  have hys := Tm.size_part (t := b) (s := y) (by rw [Tm.ps_of_sym (by omega)]; exact hym)
  have s2 := refSame_abs w x y (hok'.2 x hxm) (hbok'.2 y hym)
  have hrec := ih x hxm w (hr'.2 x hxm) (hok'.2 x hxm) (by omega) y (hbr'.2 y hym) (hbok'.2 y hym) (by omega)
  refine aS (aS (aD (by kernel_rfl) (by kernel_rfl) ?_))
  (refine nx (aF (gN rfl) rfl rfl rfl rfl rfl rfl rfl rfl rfl) rfl ?_)
  (refine nx (aLb (gN rfl) rfl rfl rfl rfl rfl rfl rfl rfl rfl rfl rfl rfl) rfl ?_)
  (refine nx (aM (gN rfl) rfl rfl rfl rfl rfl) rfl ?_)
  (refine nx (a_index (j := k) (gN rfl) rfl rfl rfl rfl rfl rfl rfl rfl rfl (hx') rfl (hsz)) rfl ?_)
  (refine nx (a_load_ad (gN rfl) rfl rfl rfl rfl rfl rfl rfl rfl rfl) rfl ?_)
  (refine nx (aF (gN rfl) rfl rfl rfl rfl rfl rfl rfl rfl rfl) rfl ?_)
  (refine nx (aLb (gN rfl) rfl rfl rfl rfl rfl rfl rfl rfl rfl rfl rfl rfl) rfl ?_)
  (refine nx (aM (gN rfl) rfl rfl rfl rfl rfl) rfl ?_)
  (refine nx (a_index (j := k) (gN rfl) rfl rfl rfl rfl rfl rfl rfl rfl rfl (hy') rfl (hsz2)) rfl ?_)
  (refine nx (a_load_ad (gN rfl) rfl rfl rfl rfl rfl rfl rfl rfl rfl) rfl ?_)
  (refine nx (a_call (gN rfl) rfl rfl rfl rfl rfl (s2)) rfl ?_)
  refine ⟨by kernel_rfl, ?_⟩
  show AWp _ _ _ _ _ _ _
  refine aC rfl (fun hc => aK ?_) (fun hc => aE ?_)
  · have h0 : kb x y = 0 := by rw [same_kb] at hc; exact of_decide_eq_true hc
    show AWp _ _ _ _ _ _ _
    refine aB (aR ?_)
    (refine nx (aM (gN rfl) rfl rfl rfl rfl rfl) rfl ?_)
    (refine nx (a_add (gN rfl) rfl rfl rfl rfl rfl rfl (by first | omega | (simp only [List.length_map, List.length_append, List.length_cons, List.length_nil] <;> omega) | (simp <;> omega))) rfl ?_)
    (refine nx (aA (gN rfl) rfl rfl rfl rfl rfl) rfl ?_)
    refine ⟨hkl, fun j u v hj hu hv => ?_, wk_sub ⟨rfl, rfl, rfl, rfl, rfl, trivial⟩⟩
    rcases Nat.lt_or_ge j k with h | h
    · exact hI j u v h hu hv
    · have : j = k := by omega
      subst this
      rw [hx] at hu
      rw [hy] at hv
      cases hu; cases hv
      exact h0
  · have hne : kb x y ≠ 0 := by rw [same_kb] at hc; exact of_decide_eq_false hc
    obtain ⟨e1, e2⟩ := scs_at hx hy hne hI
    have hr : decide (kb x y = 1) = K := by
      rw [Bool.eq_iff_iff, decide_eq_true_iff, hKw, e2]
      omega
    rw [hr] at hrec
    show AWp _ _ _ _ _ _ _
    refine aS (aD (by kernel_rfl) (by kernel_rfl) ?_)
    (refine nx (aF (gN rfl) rfl rfl rfl rfl rfl rfl rfl rfl rfl) rfl ?_)
    (refine nx (aLb (gN rfl) rfl rfl rfl rfl rfl rfl rfl rfl rfl rfl rfl rfl) rfl ?_)
    (refine nx (aM (gN rfl) rfl rfl rfl rfl rfl) rfl ?_)
    (refine nx (a_index (j := k) (gN rfl) rfl rfl rfl rfl rfl rfl rfl rfl rfl (hx') rfl (hsz)) rfl ?_)
    (refine nx (a_load_ad (gN rfl) rfl rfl rfl rfl rfl rfl rfl rfl rfl) rfl ?_)
    (refine nx (aF (gN rfl) rfl rfl rfl rfl rfl rfl rfl rfl rfl) rfl ?_)
    (refine nx (aLb (gN rfl) rfl rfl rfl rfl rfl rfl rfl rfl rfl rfl rfl rfl) rfl ?_)
    (refine nx (aM (gN rfl) rfl rfl rfl rfl rfl) rfl ?_)
    (refine nx (a_index (j := k) (gN rfl) rfl rfl rfl rfl rfl rfl rfl rfl rfl (hy') rfl (hsz2)) rfl ?_)
    (refine nx (a_load_ad (gN rfl) rfl rfl rfl rfl rfl rfl rfl rfl rfl) rfl ?_)
    (refine nx (a_call (gN rfl) rfl rfl rfl rfl rfl (hrec)) rfl ?_)
    (refine nx (aA (gN rfl) rfl rfl rfl rfl rfl) rfl ?_)
    refine ⟨by kernel_rfl, ?_⟩
    show AWp _ _ _ _ _ _ _
    exact aT ⟨.inr rfl, rfl⟩
-- 
theorem rCompare_abs (W : World) (a b : Tm) (ha : a.rng) (hao : a.ok) (has : a.size ≤ 90000000000) (hb : b.rng) (hbo : b.ok) (hbs : b.size ≤ 90000000000) : AFun Try.prog W 38 [a.cw, b.cw] (.val (.i (kb a b))) := by
  refine afun_of (rs := [.i (kb a b)]) Try.func38 Try.ntmps38 rfl rfl rfl rfl ?_
  intro w U hW
  have s1 := refSame_abs w a b hao hbo
  have g1 := rGreater_abs w a ha hao has b hb hbo hbs
  have g2 := rGreater_abs w b hb hbo hbs a ha hao has
  rw [same_kb] at s1
  rw [kb_turn a b] at g2
  have h4 := kb_four a b
  have ht := trn_four h4
  obtain ⟨k, hk⟩ : ∃ k, k = kb a b := ⟨_, rfl⟩
  rw [← hk] at s1 g1 g2 h4 ht ⊢
  refine aS (aR ?_)
  (refine nx (a_box (gN rfl) rfl rfl rfl rfl rfl) rfl ?_)
  (refine nx (a_box (gN rfl) rfl rfl rfl rfl rfl) rfl ?_)
  (refine nx (aA (gN rfl) rfl rfl rfl rfl rfl) rfl ?_)
  show AWp _ _ _ _ _ _ _
  refine aS (aS (aR ?_))
  (refine nx (aL (gN rfl) rfl rfl rfl rfl rfl rfl rfl rfl rfl rfl rfl rfl) rfl ?_)
  (refine nx (aL (gN rfl) rfl rfl rfl rfl rfl rfl rfl rfl rfl rfl rfl rfl) rfl ?_)
  (refine nx (a_call (gN rfl) rfl rfl rfl rfl rfl (s1)) rfl ?_)
  show AWp _ _ _ _ _ _ _
  refine aC rfl (fun hc => ?_) (fun hc => aK ?_)
  · have hc := of_decide_eq_true hc
    rw [hc]
    refine aS (aR ?_)
    (refine nx (aA (gN rfl) rfl rfl rfl rfl rfl) rfl ?_)
    show AWp _ _ _ _ _ _ _
    exact aT ⟨.inr rfl, rfl⟩
  have h0 : ¬ k = 0 := of_decide_eq_false hc
  show AWp _ _ _ _ _ _ _
  refine aS (aS (aR ?_))
  (refine nx (aL (gN rfl) rfl rfl rfl rfl rfl rfl rfl rfl rfl rfl rfl rfl) rfl ?_)
  (refine nx (aL (gN rfl) rfl rfl rfl rfl rfl rfl rfl rfl rfl rfl rfl rfl) rfl ?_)
  (refine nx (a_call (gN rfl) rfl rfl rfl rfl rfl (g1)) rfl ?_)
  show AWp _ _ _ _ _ _ _
  refine aC rfl (fun hc => ?_) (fun hc => aK ?_)
  · have hc := of_decide_eq_true hc
    rw [hc]
    refine aS (aR ?_)
    (refine nx (aA (gN rfl) rfl rfl rfl rfl rfl) rfl ?_)
    show AWp _ _ _ _ _ _ _
    exact aT ⟨.inr rfl, rfl⟩
  have h1 : ¬ k = 1 := of_decide_eq_false hc
  show AWp _ _ _ _ _ _ _
  refine aS (aS (aR ?_))
  (refine nx (aL (gN rfl) rfl rfl rfl rfl rfl rfl rfl rfl rfl rfl rfl rfl) rfl ?_)
  (refine nx (aL (gN rfl) rfl rfl rfl rfl rfl rfl rfl rfl rfl rfl rfl rfl) rfl ?_)
  (refine nx (a_call (gN rfl) rfl rfl rfl rfl rfl (g2)) rfl ?_)
  show AWp _ _ _ _ _ _ _
  refine aC rfl (fun hc => ?_) (fun hc => aK ?_)
  · have hc := of_decide_eq_true hc
    rw [ht.2.1.1 hc]
    refine aS (aR ?_)
    (refine nx (aA (gN rfl) rfl rfl rfl rfl rfl) rfl ?_)
    show AWp _ _ _ _ _ _ _
    exact aT ⟨.inr rfl, rfl⟩
  have h2 : ¬ k = -1 := fun e => of_decide_eq_false hc (ht.2.1.2 e)
  have hk2 : k = 2 := by unfold K4 at h4; omega
  rw [hk2]
  show AWp _ _ _ _ _ _ _
  refine aS (aR ?_)
  (refine nx (aA (gN rfl) rfl rfl rfl rfl rfl) rfl ?_)
  show AWp _ _ _ _ _ _ _
  exact aT ⟨.inr rfl, rfl⟩
end Go.Proofs.Ytglbohajmccehaa
namespace Go.Proofs.Ytglbohajmccehaa
open Go.RowKit
set_option linter.unusedVariables false
set_option linter.unusedSimpArgs false
section
variable {P : Program} {w0 : World} {U0 : UX} {nt : Nat} {ops : Array Oper} {o : Oper} {S : Nat → Option AV} {gs : List Nat} {d : Nat}
variable (hg : Gd w0 U0 nt ops o gs S) (hd : o.dst = some d) (hn : Nat.blt d nt = true) (h5 : Nat.blt d 100000 = true)
include hg hd hn h5
end
end Go.Proofs.Ytglbohajmccehaa
namespace Go.Proofs.Ytglbohajmccehaa
set_option linter.unusedVariables false
def ub : Nat → Nat → List Int
  | 0, n => [(n : Int)]
  | k + 1, n => if n < 128 then [(n : Int)] else ((128 + n % 128 : Nat) : Int) :: ub k (n / 128)

def ubytes (n : Nat) : List Int := ub 9 n

def lenz (n : Nat) : Nat := if n = 0 then 0 else (ubytes n).length

def zz (n : Int) : Nat := if 0 ≤ n then (2 * n).toNat else (-2 * n - 1).toNat
end Go.Proofs.Ytglbohajmccehaa
namespace Go.Proofs.Ytglbohajmccehaa
open Go.RowKit
set_option linter.unusedVariables false






def lastAt : List Int → Option Nat
  | [] => none
  | b :: r => if b < 128 then some 0 else (lastAt r).map (· + 1)

def lastInt (l : List Int) : Int := match lastAt l with | none => -1 | some i => (i : Int)

def val : List Int → Nat
  | [] => 0
  | b :: r => (b % 128).toNat + 128 * val r

def okNum (l : List Int) : Bool := decide (l.length ≤ 10 ∧ (l.length = 10 → l.getD (l.length - 1) 0 ≤ 1) ∧ (l.getD (l.length - 1) 0 ≠ 0 ∨ l.length = 1))

def unzz (n : Nat) : Int := if n % 2 = 0 then ((n / 2 : Nat) : Int) else -((n / 2 : Nat) : Int) - 1


def rdU (l : List Int) : Nat × Nat × Nat :=
  match lastAt l with
  | none => (0, 0, 10)
  | some i => if okNum (l.take (i + 1)) then (val (l.take (i + 1)), i + 1, 0) else (0, 0, 7)
def canon : List Int → Prop
  | [] => False
  | b :: r => match r with
    | [] => 0 < b ∧ b < 128
    | _ :: _ => 128 ≤ b ∧ b ≤ 255 ∧ canon r
end Go.Proofs.Ytglbohajmccehaa
namespace Go.Proofs.Ytglbohajmccehaa
set_option linter.unusedVariables false
set_option linter.unusedSimpArgs false
def wT : Tm → List Int
  | ⟨f, l⟩ => ubytes (zz f) ++ (if f < 0 then [] else ubytes l.length ++ (l.map wT).flatten)
def wL (l : Lt) : List Int := (if l.neg then 1 else 0) :: (wT l.a ++ wT l.b)
def wC (c : List Lt) : List Int := ubytes c.length ++ c.flatMap wL

def rN (most : Nat) (l : List Int) : Except Nat (Nat × Nat) := match rdU l with
  | (v, c, 0) => if v > most then .error 7 else .ok (v, c)
  | (_, _, e + 1) => .error (e + 1)
def rH (l : List Int) : Except Nat (Int × Nat) := match rdU l with
  | (v, c, 0) => if -2147483648 ≤ unzz v ∧ unzz v ≤ 2147483647 then .ok (unzz v, c) else .error 7
  | (_, _, e + 1) => .error (e + 1)
def rMany {α : Type} (g : List Int → Except Nat (α × Nat)) : Nat → List Int → Except Nat (List α × Nat)
  | 0, _ => .ok ([], 0)
  | n + 1, l => match g l with
    | .error e => .error e
    | .ok (x, c) => match rMany g n (l.drop c) with
      | .error e => .error e
      | .ok (xs, c') => .ok (x :: xs, c + c')
def rList {α : Type} (g : List Int → Except Nat (α × Nat)) (l : List Int) : Except Nat (List α × Nat) := match rN 4096 l with
  | .error e => .error e
  | .ok (n, c) => match rMany g n (l.drop c) with
    | .error e => .error e
    | .ok (xs, c') => .ok (xs, c + c')
def rT : Nat → List Int → Except Nat (Tm × Nat)
  | 0, _ => .error 7
  | d + 1, l => match rH l with
    | .error e => .error e
    | .ok (f, c) => if f < 0 then .ok (⟨f, []⟩, c) else match rList (rT d) (l.drop c) with
      | .error e => .error e
      | .ok (xs, c') => .ok (⟨f, xs⟩, c + c')
def rL (l : List Int) : Except Nat (Lt × Nat) := match rN 1 l with
  | .error e => .error e
  | .ok (n, c) => match rT 257 (l.drop c) with
    | .error e => .error e
    | .ok (a, c1) => match rT 257 (l.drop (c + c1)) with
      | .error e => .error e
      | .ok (b, c2) => .ok (⟨decide (n = 1), a, b⟩, c + c1 + c2)
def rC (l : List Int) : Except Nat (List Lt × Nat) := rList rL l

def wfB (l : List Int) : Prop := ∀ z ∈ l, 0 ≤ z ∧ z ≤ 255
def Rt {α : Type} (w : α → List Int) (l : List Int) (r : Except Nat (α × Nat)) : Prop := ∀ x c, r = .ok (x, c) → c ≤ l.length ∧ w x = l.take c
def Er {α : Type} (r : Except Nat (α × Nat)) : Prop := ∀ e, r = .error e → e = 7 ∨ e = 10
structure Thru {α : Type} (g : List Int → Except Nat (α × Nat)) (w : List Int) (x : α) : Prop where
  back : ∀ r, g (w ++ r) = .ok (x, w.length)
  cut : ∀ j, j < w.length → g (w.take j) = .error 10
end Go.Proofs.Ytglbohajmccehaa
namespace Go.Proofs.Ytglbohajmccehaa
open Go.RowKit
set_option linter.unusedVariables false
set_option linter.unusedSimpArgs false
set_option maxRecDepth 100000
abbrev by8 (z : Int) : CV := .sc (.int .u8 z)
def gU (zs : List Int) (p : Int) : Int × Int × Int :=
  if p < 0 ∨ p > zs.length then (0, 0, 1) else match rdU (zs.drop p.toNat) with
    | (v, c, 0) => (v, p + c, 0)
    | (_, _, e + 1) => (0, 0, ((e + 1 : Nat) : Int))
def gI (zs : List Int) (p : Int) : Int × Int × Int :=
  if p < 0 ∨ p > zs.length then (0, 0, 1) else match rdU (zs.drop p.toNat) with
    | (v, c, 0) => (unzz v, p + c, 0)
    | (_, _, e + 1) => (0, 0, ((e + 1 : Nat) : Int))
noncomputable abbrev rB (zs : List Int) : AS := [(300001, .mrow 5 1 (zs.map by8))]
def zT : Tm := ⟨0, []⟩
def zL : Lt := ⟨false, zT, zT⟩
def okP {α : Type} (q : Nat) : Except Nat (α × Nat) → Int
  | .ok (_, c) => ((q + c : Nat) : Int)
  | .error _ => 0
def okE {α : Type} : Except Nat (α × Nat) → Int
  | .ok _ => 0
  | .error e => (e : Int)
def okN : Except Nat (Nat × Nat) → Int
  | .ok (v, _) => (v : Int)
  | .error _ => 0
noncomputable def okT : Except Nat (Tm × Nat) → CV
  | .ok (x, _) => x.cw
  | .error _ => .row [.i 0, .lst []]
noncomputable def okG : Except Nat (Lt × Nat) → CV
  | .ok (x, _) => x.cw
  | .error _ => .row [.b false, .row [.i 0, .lst []], .row [.i 0, .lst []]]
noncomputable def okLT : Except Nat (List Tm × Nat) → List CV
  | .ok (x, _) => x.map Tm.cv
  | .error _ => []
noncomputable def okLG : Except Nat (List Lt × Nat) → List CV
  | .ok (x, _) => x.map Lt.cv
  | .error _ => []
noncomputable abbrev tupN (q : Nat) (r : Except Nat (Nat × Nat)) : List CV := [.sc (.int .u64 (okN r)), .i (okP q r), by8 (okE r)]
noncomputable abbrev tupT (q : Nat) (r : Except Nat (Tm × Nat)) : List CV := [okT r, .i (okP q r), by8 (okE r)]
noncomputable abbrev tupG (q : Nat) (r : Except Nat (Lt × Nat)) : List CV := [okG r, .i (okP q r), by8 (okE r)]
noncomputable abbrev tupLT (q : Nat) (r : Except Nat (List Tm × Nat)) : List CV := [.lst (okLT r), .i (okP q r), by8 (okE r)]
noncomputable abbrev tupLG (q : Nat) (r : Except Nat (List Lt × Nat)) : List CV := [.lst (okLG r), .i (okP q r), by8 (okE r)]
def rHd (l : List Int) : Except Nat (Tm × Nat) := match rH l with
  | .error e => .error e
  | .ok (f, c) => .ok (⟨f, []⟩, c)
def cmb {α : Type} (xs : List α) (q0 q : Nat) : Except Nat (List α × Nat) → Except Nat (List α × Nat)
  | .error e => .error e
  | .ok (ys, c) => .ok (xs ++ ys, q - q0 + c)
def gC (zs : List Int) (p : Int) : Except Nat (List Lt × Nat) := if p < 0 ∨ p > zs.length then .error 1 else rC (zs.drop p.toNat)
def exC : Lt := ⟨false, ⟨3, [⟨-1, []⟩]⟩, ⟨1, []⟩⟩
def finL (size : Int) (l : Lt) : Bool := decide (0 ≤ smallT l.a size 8) && decide (0 ≤ smallT l.b size 8)
def fineC (c : List Lt) (most : Nat) (size : Int) : Bool := decide (c.length ≤ most) && c.all (finL size)
-- 
set_option maxHeartbeats 1000000 in
theorem fine11_abs (W : World) (c : List Lt) (most : Nat) (size : Int) (hm : most ≤ 1000) (h0 : 0 ≤ size) (h1 : size ≤ 60) (hr : okC c) : AFun Try.prog W 9 [.lst (c.map Lt.cv), .i (most : Int), .i size] (.val (.b (fineC c most size))) := by
  have hsz := Lt.size_all c
  refine afun_of (rs := [.b (fineC c most size)]) Try.func9 Try.ntmps9 rfl rfl rfl rfl ?_
  intro w U hW
  refine aS (aR ?_)
  (refine nx (aA (gN rfl) rfl rfl rfl rfl rfl) rfl ?_)
  show AWp _ _ _ _ _ _ _
  refine aS (aS (aR ?_))
  (refine nx (aM (gN rfl) rfl rfl rfl rfl rfl) rfl ?_)
  (refine nx (a_len (gN rfl) rfl rfl rfl rfl rfl rfl rfl) rfl ?_)
  (refine nx (aM (gN rfl) rfl rfl rfl rfl rfl) rfl ?_)
  (refine nx (a_gtr (gN rfl) rfl rfl rfl rfl rfl rfl) rfl ?_)
  show AWp _ _ _ _ _ _ _
  refine aC rfl (fun hc => ?_) (fun hc => ?_)
  · have hno : fineC c most size = false := by
      have := of_decide_eq_true hc
      rw [List.length_map] at this
      unfold fineC
      rw [show decide (c.length ≤ most) = false by rw [decide_eq_false_iff_not]; omega]
      rfl
    rw [hno]
    refine aS (aR ?_)
    (refine nx (aA (gN rfl) rfl rfl rfl rfl rfl) rfl ?_)
    show AWp _ _ _ _ _ _ _
    exact aT (And.intro (.inr rfl) rfl)
  have hl : c.length ≤ most := by
    have := of_decide_eq_false hc
    rw [List.length_map] at this
    omega
  refine aK ?_
  show AWp _ _ _ _ _ _ _
  refine aS (aS (aR ?_))
  (refine nx (aA (gN rfl) rfl rfl rfl rfl rfl) rfl ?_)
  show AWp _ _ _ _ _ _ _
  refine aB (awp_countI c.length (fun k => ∀ l ∈ c.take k, finL size l = true) (fun k => [(0, .val (.lst (c.map Lt.cv))), (2, .val (.i size)), (7, .val (.i k))]) (wk_sub ⟨rfl, rfl, rfl, trivial⟩) (by simp) ?_)
  intro k hk hI
  refine aS (aS (aR ?_))
  (refine nx (aM (gN rfl) rfl rfl rfl rfl rfl) rfl ?_)
  (refine nx (aM (gN rfl) rfl rfl rfl rfl rfl) rfl ?_)
  (refine nx (a_len (gN rfl) rfl rfl rfl rfl rfl rfl rfl) rfl ?_)
  (refine nx (a_lss (gN rfl) rfl rfl rfl rfl rfl rfl) rfl ?_)
  show AWp _ _ _ _ _ _ _
  refine aC rfl (fun hlt => ?_) (fun hlt => ?_)
  · have hkl : k < c.length := by simpa using hlt
    obtain ⟨x, hx⟩ : ∃ x, c[k]? = some x := ⟨c[k], List.getElem?_eq_getElem hkl⟩
    have hx' := Lt.map_at hx
    have hxm := List.mem_of_getElem? hx
    have sa := small_abs w x.a size 8 (hr x hxm).1 h0 h1 (by decide) (by decide)
    have sb := small_abs w x.b size 8 (hr x hxm).2 h0 h1 (by decide) (by decide)
    have hno : finL size x = false → fineC c most size = false := fun h => by
      unfold fineC
      rw [show c.all (finL size) = false from List.all_eq_false.2 ⟨x, hxm, by rw [h]; simp⟩, Bool.and_false]
    refine aK ?_
    show AWp _ _ _ _ _ _ _
    by_cases ha : smallT x.a size 8 < 0
    · have ga : decide (smallT x.a size 8 < 0) = true := by simpa using ha
      rw [hno (by unfold finL; rw [show decide (0 ≤ smallT x.a size 8) = false by rw [decide_eq_false_iff_not]; omega]; rfl)]
      refine aS (aB (aS (aR ?_)))
      (refine nx (aM (gN rfl) rfl rfl rfl rfl rfl) rfl ?_)
      (refine nx (aM (gN rfl) rfl rfl rfl rfl rfl) rfl ?_)
      (refine nx (a_index (j := k) (gN rfl) rfl rfl rfl rfl rfl rfl rfl rfl rfl (hx') rfl (hsz)) rfl ?_)
      (refine nx (a_field_ad (gN rfl) rfl rfl rfl rfl rfl rfl rfl rfl rfl rfl rfl) rfl ?_)
      (refine nx (a_load_ad (gN rfl) rfl rfl rfl rfl rfl rfl rfl rfl rfl) rfl ?_)
      (refine nx (aM (gN rfl) rfl rfl rfl rfl rfl) rfl ?_)
      (refine nx (a_call (gN rfl) rfl rfl rfl rfl rfl (sa)) rfl ?_)
      (refine nx (a_lss (gN rfl) rfl rfl rfl rfl rfl rfl) rfl ?_)
      (refine nx (aM (gN rfl) rfl rfl rfl rfl rfl) rfl ?_)
      (refine ⟨_, _, _, a_off (go_off rfl rfl rfl rfl (by first | rfl | assumption | (simp; done) | (simp [*]; done))) rfl rfl rfl, rfl, ?_⟩)
      (refine ⟨_, _, _, a_off (go_off rfl rfl rfl rfl (by first | rfl | assumption | (simp; done) | (simp [*]; done))) rfl rfl rfl, rfl, ?_⟩)
      (refine ⟨_, _, _, a_off (go_off rfl rfl rfl rfl (by first | rfl | assumption | (simp; done) | (simp [*]; done))) rfl rfl rfl, rfl, ?_⟩)
      (refine ⟨_, _, _, a_off (go_off rfl rfl rfl rfl (by first | rfl | assumption | (simp; done) | (simp [*]; done))) rfl rfl rfl, rfl, ?_⟩)
      (refine ⟨_, _, _, a_off (go_off rfl rfl rfl rfl (by first | rfl | assumption | (simp; done) | (simp [*]; done))) rfl rfl rfl, rfl, ?_⟩)
      (refine ⟨_, _, _, a_off (go_off rfl rfl rfl rfl (by first | rfl | assumption | (simp; done) | (simp [*]; done))) rfl rfl rfl, rfl, ?_⟩)
      (refine ⟨_, _, _, a_off (go_off rfl rfl rfl rfl (by first | rfl | assumption | (simp; done) | (simp [*]; done))) rfl rfl rfl, rfl, ?_⟩)
      (refine ⟨_, _, _, a_off (go_off rfl rfl rfl rfl (by first | rfl | assumption | (simp; done) | (simp [*]; done))) rfl rfl rfl, rfl, ?_⟩)
      (refine ⟨_, _, _, aPt (gN rfl) rfl rfl rfl rfl rfl ?hb rfl, rfl, ?_⟩; case hb => (first | rfl | assumption | (simp; done)))
      show AWp _ _ _ _ _ _ _
      refine aC rfl (fun hc2 => ?_) (fun hc2 => by cases hc2)
      refine aS (aR ?_)
      (refine nx (aA (gN rfl) rfl rfl rfl rfl rfl) rfl ?_)
      show AWp _ _ _ _ _ _ _
      exact aT (And.intro (.inr rfl) rfl)
    · have ga : decide (smallT x.a size 8 < 0) = false := by simpa using ha
      refine aS (aB (aS (aR ?_)))
      (refine nx (aM (gN rfl) rfl rfl rfl rfl rfl) rfl ?_)
      (refine nx (aM (gN rfl) rfl rfl rfl rfl rfl) rfl ?_)
      (refine nx (a_index (j := k) (gN rfl) rfl rfl rfl rfl rfl rfl rfl rfl rfl (hx') rfl (hsz)) rfl ?_)
      (refine nx (a_field_ad (gN rfl) rfl rfl rfl rfl rfl rfl rfl rfl rfl rfl rfl) rfl ?_)
      (refine nx (a_load_ad (gN rfl) rfl rfl rfl rfl rfl rfl rfl rfl rfl) rfl ?_)
      (refine nx (aM (gN rfl) rfl rfl rfl rfl rfl) rfl ?_)
      (refine nx (a_call (gN rfl) rfl rfl rfl rfl rfl (sa)) rfl ?_)
      (refine nx (a_lss (gN rfl) rfl rfl rfl rfl rfl rfl) rfl ?_)
      (refine nx (aM (gN rfl) rfl rfl rfl rfl rfl) rfl ?_)
      (refine nx (aM (gd_on rfl rfl rfl rfl (by first | rfl | assumption | (simp; done))) rfl rfl rfl rfl rfl) rfl ?_)
      (refine nx (aM (gd_on rfl rfl rfl rfl (by first | rfl | assumption | (simp; done))) rfl rfl rfl rfl rfl) rfl ?_)
      (refine nx (a_index (j := k) (gd_on rfl rfl rfl rfl (by first | rfl | assumption | (simp; done))) rfl rfl rfl rfl rfl rfl rfl rfl rfl (hx') rfl (hsz)) rfl ?_)
      (refine nx (a_field_ad (gd_on rfl rfl rfl rfl (by first | rfl | assumption | (simp; done))) rfl rfl rfl rfl rfl rfl rfl rfl rfl rfl rfl) rfl ?_)
      (refine nx (a_load_ad (gd_on rfl rfl rfl rfl (by first | rfl | assumption | (simp; done))) rfl rfl rfl rfl rfl rfl rfl rfl rfl) rfl ?_)
      (refine nx (aM (gd_on rfl rfl rfl rfl (by first | rfl | assumption | (simp; done))) rfl rfl rfl rfl rfl) rfl ?_)
      (refine nx (a_call (gd_on rfl rfl rfl rfl (by first | rfl | assumption | (simp; done))) rfl rfl rfl rfl rfl (sb)) rfl ?_)
      (refine nx (a_lss (gd_on rfl rfl rfl rfl (by first | rfl | assumption | (simp; done))) rfl rfl rfl rfl rfl rfl) rfl ?_)
      (refine ⟨_, _, _, aPf (gN rfl) rfl rfl rfl rfl rfl ?hb rfl, rfl, ?_⟩; case hb => (first | rfl | assumption | (simp; done)))
      show AWp _ _ _ _ _ _ _
      refine aC rfl (fun hc2 => ?_) (fun hc2 => ?_)
      · have hb := of_decide_eq_true hc2
        rw [hno (by unfold finL; rw [show decide (0 ≤ smallT x.b size 8) = false by rw [decide_eq_false_iff_not]; omega]; simp)]
        refine aS (aR ?_)
        (refine nx (aA (gN rfl) rfl rfl rfl rfl rfl) rfl ?_)
        show AWp _ _ _ _ _ _ _
        exact aT (And.intro (.inr rfl) rfl)
      · have hb := of_decide_eq_false hc2
        refine aK ?_
        show AWp _ _ _ _ _ _ _
        refine aR ?_
        (refine nx (aM (gN rfl) rfl rfl rfl rfl rfl) rfl ?_)
        (refine nx (a_add (gN rfl) rfl rfl rfl rfl rfl rfl (by first | omega | (simp only [List.length_map, List.length_append, List.length_cons, List.length_nil] <;> omega) | (simp <;> omega))) rfl ?_)
        (refine nx (aA (gN rfl) rfl rfl rfl rfl rfl) rfl ?_)
        refine ⟨hkl, ?_, wk_sub ⟨rfl, rfl, rfl, trivial⟩⟩
        intro y hy
        rw [List.take_add_one, hx, List.mem_append] at hy
        rcases hy with hy | hy
        · exact hI y hy
        · simp at hy
          rw [hy]
          unfold finL
          rw [show decide (0 ≤ smallT x.a size 8) = true by rw [decide_eq_true_eq]; omega, show decide (0 ≤ smallT x.b size 8) = true by rw [decide_eq_true_eq]; omega]
          rfl
  · have hkl : k = c.length := by
      have : ¬ k < c.length := by simpa using hlt
      omega
    subst hkl
    rw [List.take_length] at hI
    have hyes : fineC c most size = true := by
      unfold fineC
      rw [show decide (c.length ≤ most) = true by simpa using hl, Bool.true_and]
      exact List.all_eq_true.2 hI
    rw [hyes]
    refine aE ?_
    show AWp _ _ _ _ _ _ _
    refine aS (aR ?_)
    (refine nx (aA (gN rfl) rfl rfl rfl rfl rfl) rfl ?_)
    show AWp _ _ _ _ _ _ _
    exact aT (And.intro (.inr rfl) rfl)
theorem fineC_facts {c : List Lt} {most : Nat} {size : Int} (h0 : 0 ≤ size) (h1 : size ≤ 60) (h : fineC c most size = true) : c.length ≤ most ∧ ∀ l ∈ c, ((l.a.sm ∧ l.a.rng ∧ l.a.ok) ∧ (l.a.wt : Int) ≤ size ∧ (l.a.size : Int) ≤ size) ∧ ((l.b.sm ∧ l.b.rng ∧ l.b.ok) ∧ (l.b.wt : Int) ≤ size ∧ (l.b.size : Int) ≤ size) := by
  unfold fineC at h
  rw [Bool.and_eq_true, decide_eq_true_eq] at h
  refine ⟨h.1, fun l hl => ?_⟩
  have hf := List.all_eq_true.1 h.2 l hl
  unfold finL at hf
  rw [Bool.and_eq_true, decide_eq_true_eq, decide_eq_true_eq] at hf
  have key : ∀ t : Tm, 0 ≤ smallT t size 8 → (t.sm ∧ t.rng ∧ t.ok) ∧ (t.wt : Int) ≤ size ∧ (t.size : Int) ≤ size := fun t ht => by
    have hsm := small_sm t _ _ ht
    have hwt : (t.wt : Int) ≤ size := by have := (small_bounds t size 8 h0).2.2 ht; omega
    have := t.size_wt
    exact ⟨⟨hsm, Tm.sm_rng hsm, Tm.wt_ok (t := t) (by omega)⟩, hwt, by omega⟩
  exact ⟨key _ hf.1, key _ hf.2⟩
-- 
set_option maxHeartbeats 1000000 in
theorem of11I_abs (W : World) (c : List Lt) (hl : c.length ≤ 1000000) (hc : ∀ l ∈ c, l.a.ok ∧ l.b.ok) : AFun Try.prog W 23 [.lst (c.map Lt.cv)] (.val (.lst ((c.map id).map Lt.cv))) := by
  have hsz := Lt.size_all c
  refine afun_of (rs := [.lst ((c.map id).map Lt.cv)]) Try.func23 Try.ntmps23 rfl rfl rfl rfl ?_
  intro w U hW
  refine aS (aR ?_)
  (refine nx (aA (gN rfl) rfl rfl rfl rfl rfl) rfl ?_)
  show AWp _ _ _ _ _ _ _
  refine aS (aR ?_)
  (refine nx (aA (gN rfl) rfl rfl rfl rfl rfl) rfl ?_)
  show AWp _ _ _ _ _ _ _
  refine aS (aS (aR ?_))
  (refine nx (aA (gN rfl) rfl rfl rfl rfl rfl) rfl ?_)
  show AWp _ _ _ _ _ _ _
  refine aB (awp_count c.length (fun k => [(0, .val (.lst (c.map Lt.cv))), (3, .own (.lst (((c.take k).map id).map Lt.cv)) 200031), (200031, .tok 35 5), (4, .val (.i k))]) ((wk_nil 3 200031 35 5 rfl rfl rfl rfl rfl rfl rfl).trans (wk_sub ⟨rfl, rfl, rfl, rfl, trivial⟩)) ?_)
  intro k hk
  have hks := Lt.size_all ((c.take k).map id)
  refine aS (aS (aR ?_))
  (refine nx (aM (gN rfl) rfl rfl rfl rfl rfl) rfl ?_)
  (refine nx (aM (gN rfl) rfl rfl rfl rfl rfl) rfl ?_)
  (refine nx (a_len (gN rfl) rfl rfl rfl rfl rfl rfl rfl) rfl ?_)
  (refine nx (a_lss (gN rfl) rfl rfl rfl rfl rfl rfl) rfl ?_)
  show AWp _ _ _ _ _ _ _
  refine aC rfl (fun hlt => ?_) (fun hlt => ?_)
  · have hkl : k < c.length := by simpa using hlt
    obtain ⟨x, hx⟩ : ∃ x, c[k]? = some x := ⟨c[k], List.getElem?_eq_getElem hkl⟩
    have hx' := Lt.map_at hx
    have hxm := List.mem_of_getElem? hx
    have hkn : (((c.take k).map id).map Lt.cv).length ≤ 1000000 := by rw [List.length_map, List.length_map, List.length_take]; omega
    refine aK ?_
    show AWp _ _ _ _ _ _ _
    refine aS (aB (aD (by kernel_rfl) (by kernel_rfl) ?_))
    (refine nx (aM (gN rfl) rfl rfl rfl rfl rfl) rfl ?_)
    (refine nx (aM (gN rfl) rfl rfl rfl rfl rfl) rfl ?_)
    (refine nx (aM (gN rfl) rfl rfl rfl rfl rfl) rfl ?_)
    (refine nx (a_index (j := k) (gN rfl) rfl rfl rfl rfl rfl rfl rfl rfl rfl (hx') rfl (hsz)) rfl ?_)
    (refine nx (a_field_ad (gN rfl) rfl rfl rfl rfl rfl rfl rfl rfl rfl rfl rfl) rfl ?_)
    (refine nx (a_load_ad (gN rfl) rfl rfl rfl rfl rfl rfl rfl rfl rfl) rfl ?_)
    (refine nx (aM (gN rfl) rfl rfl rfl rfl rfl) rfl ?_)
    (refine nx (aM (gN rfl) rfl rfl rfl rfl rfl) rfl ?_)
    (refine nx (a_index (j := k) (gN rfl) rfl rfl rfl rfl rfl rfl rfl rfl rfl (hx') rfl (hsz)) rfl ?_)
    (refine nx (a_field_ad (gN rfl) rfl rfl rfl rfl rfl rfl rfl rfl rfl rfl rfl) rfl ?_)
    (refine nx (a_load_ad (gN rfl) rfl rfl rfl rfl rfl rfl rfl rfl rfl) rfl ?_)
    (refine nx (a_call (gN rfl) rfl rfl rfl rfl rfl (of_abs w x.a (hc x hxm).1)) rfl ?_)
    (refine nx (aM (gN rfl) rfl rfl rfl rfl rfl) rfl ?_)
    (refine nx (aM (gN rfl) rfl rfl rfl rfl rfl) rfl ?_)
    (refine nx (a_index (j := k) (gN rfl) rfl rfl rfl rfl rfl rfl rfl rfl rfl (hx') rfl (hsz)) rfl ?_)
    (refine nx (a_field_ad (gN rfl) rfl rfl rfl rfl rfl rfl rfl rfl rfl rfl rfl) rfl ?_)
    (refine nx (a_load_ad (gN rfl) rfl rfl rfl rfl rfl rfl rfl rfl rfl) rfl ?_)
    (refine nx (a_call (gN rfl) rfl rfl rfl rfl rfl (of_abs w x.b (hc x hxm).2)) rfl ?_)
    (refine nx (a_build (gN rfl) rfl rfl rfl rfl rfl rfl rfl rfl rfl rfl rfl) rfl ?_)
    (refine nx (a_bslice (gN rfl) rfl rfl rfl rfl rfl rfl rfl rfl rfl rfl rfl rfl rfl) rfl ?_)
    (refine nx (a_app (gN rfl) rfl rfl rfl rfl rfl rfl rfl rfl rfl rfl rfl rfl rfl rfl rfl (by first | assumption | exact sZ rfl | exact Tm.size_all _ | exact Bd.size_all _ | exact ints_size _ | exact bys_size _ | exact Lt.size_all _) (by first | assumption | exact sZ rfl | exact Tm.size_all _ | exact Bd.size_all _ | exact ints_size _ | exact bys_size _ | exact Lt.size_all _) (by first | omega | (simp only [List.length_map, List.length_append, List.length_cons, List.length_nil] <;> omega) | (simp <;> omega))) rfl ?_)
    (refine nx (aA (gN rfl) rfl rfl rfl rfl rfl) rfl ?_)
    refine ⟨by kernel_rfl, ?_⟩
    show AWp _ _ _ _ _ _ _
    refine aR ?_
    (refine nx (aM (gN rfl) rfl rfl rfl rfl rfl) rfl ?_)
    (refine nx (a_add (gN rfl) rfl rfl rfl rfl rfl rfl (by first | omega | (simp only [List.length_map, List.length_append, List.length_cons, List.length_nil] <;> omega) | (simp <;> omega))) rfl ?_)
    (refine nx (aA (gN rfl) rfl rfl rfl rfl rfl) rfl ?_)
    refine ⟨hkl, Wk.trans (wk_sub (s' := [(0, .val (.lst (c.map Lt.cv))), (3, .own (.lst (((c.take (k + 1)).map id).map Lt.cv)) 300031), (300031, .tok 35 5), (4, .val (.i ((k + 1 : Nat) : Int)))]) ⟨rfl, ?_, rfl, rfl, trivial⟩) (wk_ren 300031 200031 rfl rfl rfl rfl)⟩
    rw [List.take_add_one, hx, List.map_append, List.map_append]
    rfl
  · have hkl : k = c.length := by
      have : ¬ k < c.length := by simpa using hlt
      omega
    subst hkl
    rw [List.take_length]
    refine aE ?_
    show AWp _ _ _ _ _ _ _
    refine aS (aR ?_)
    (refine nx (aM (gN rfl) rfl rfl rfl rfl rfl) rfl ?_)
    (refine nx (aA (gN rfl) rfl rfl rfl rfl rfl) rfl ?_)
    show AWp _ _ _ _ _ _ _
    exact aT (And.intro (.inr rfl) rfl)
theorem of11_abs (W : World) (c : List Lt) (hl : c.length ≤ 1000000) (hc : ∀ l ∈ c, l.a.ok ∧ l.b.ok) : AFun Try.prog W 23 [.lst (c.map Lt.cv)] (.val (.lst (c.map Lt.cv))) := by
  have := of11I_abs W c hl hc
  rw [List.map_id] at this
  exact this
def sameL (x y : Lt) : Bool := (x.neg == y.neg) && (sameT x.a y.a && sameT x.b y.b)
def sameC : List Lt → List Lt → Bool
  | [], [] => true
  | x :: l, y :: m => sameL x y && sameC l m
  | _, _ => false
end Go.Proofs.Ytglbohajmccehaa
