/-
  KbFns4 OrFns1 ClMath OrFns2 ClLen TmAlive TmAb6 ClTaut OrFns3 KbRef KbRef2 AbKind CodeMath CodeLen CodePut CodePutMore RefSame CodeRef CodeAlive CodeReadMath CodeRead CodeUint CodeText CodeBackMath ClBy ClCode ClPut ClGet ClGet2 ClA ClB OrRef OrRef2 OrCom OrLw
-/
import Derived.Test.YtglbohajmccehaaMg3
import Derived.Test.YtglbohajmccehaaMg2
import Derived.WalkKit
import Derived.Test.YtglbohajmccehaaChecked
import Derived.WalkLawsBesides
import Derived.WalkSpells
import Derived.Test.YtglbohajmccehaaMg1
import Derived.Laws.BitsAllLaws
import Derived.Deep.QuietTactic
import Derived.BigQuiet
import Derived.Laws.BytesArg
namespace Go.Proofs.Ytglbohajmccehaa
open Go.RowKit
set_option linter.unusedVariables false
set_option linter.unusedSimpArgs false
set_option maxRecDepth 100000
-- 
set_option maxHeartbeats 1000000 in
theorem kCompare_abs : ∀ a : Tm, a.rng → a.ok → a.size ≤ 100000000000 → ∀ b : Tm, b.rng → b.ok → b.size ≤ 100000000000 → AFunO Try.prog 56 (sst emp) [.bp 350001 0 [], .val a.cw, .val b.cw] (.val (.i (kb a b))) (sst (scS a b)) := by
  intro a
  induction a using Tm.indp with
  | h a ih =>
  intro hr hok has b hbr hbok hbs
  have hok' := (Tm.ok_iff _).1 hok
  have hr' := (Tm.rng_iff _).1 hr
  have hbok' := (Tm.ok_iff _).1 hbok
  have hbr' := (Tm.rng_iff _).1 hbr
  have hsz := Tm.size_all a.ps
  have hsz2 := Tm.size_all b.ps
  have el : (a.ps.map Tm.cv).length = a.ps.length := List.length_map ..
  have el2 : (b.ps.map Tm.cv).length = b.ps.length := List.length_map ..
  have hla := a.len_ps
  have hlb := b.len_ps
  obtain ⟨S, hS⟩ : ∃ S, S = scS a b := ⟨_, rfl⟩
  obtain ⟨sp1, sp2, sp3⟩ := scS_spec a b
  refine afunO_of Try.func56 Try.ntmps56 rfl rfl rfl rfl rfl rfl ?_
  intro w U hU
  refine aS (aR ?_)
  (refine nx (a_box (gN rfl) rfl rfl rfl rfl rfl) rfl ?_)
  (refine nx (a_box (gN rfl) rfl rfl rfl rfl rfl) rfl ?_)
  (refine nx (aA (gN rfl) rfl rfl rfl rfl rfl) rfl ?_)
  show AWp _ _ _ _ _ _ _
  refine aS (aD (by kernel_rfl) (by kernel_rfl) ?_)
  (refine nx (aL (gN rfl) rfl rfl rfl rfl rfl rfl rfl rfl rfl rfl rfl rfl) rfl ?_)
  (refine nx (a_call (gN rfl) rfl rfl rfl rfl rfl (kParts_abs w a)) rfl ?_)
  (refine nx (aL (gN rfl) rfl rfl rfl rfl rfl rfl rfl rfl rfl rfl rfl rfl) rfl ?_)
  (refine nx (a_call (gN rfl) rfl rfl rfl rfl rfl (kParts_abs w b)) rfl ?_)
  (refine nx (aA (gN rfl) rfl rfl rfl rfl rfl) rfl ?_)
  (refine nx (aA (gN rfl) rfl rfl rfl rfl rfl) rfl ?_)
  refine ⟨by kernel_rfl, ?_⟩
  show AWp _ _ _ _ _ _ _
  refine AWp.wk (wk_sub (s' := (0, AV.bp 350001 0 []) :: (4, .bp 4 0 []) :: (100004, .bx a.cw) :: (5, .bp 5 0 []) :: (100005, .bx b.cw) :: (7, .val (.lst (a.ps.map Tm.cv))) :: (8, .val (.lst (b.ps.map Tm.cv))) :: sst emp) ⟨rfl, rfl, rfl, rfl, rfl, rfl, rfl, rfl, rfl, rfl, rfl, rfl, rfl, trivial⟩) ?_
  by_cases h : a.f ≠ b.f ∨ a.ps.length ≠ b.ps.length
  case pos =>
    have hw : wi a b = hdK a b := by unfold wi; rw [if_pos h]
    have hk0 : kb a b ≠ 0 := by rw [kb_eq, ne_eq, verd_zero, hw]; exact hd_ne h
    have hres : vdS (addT (-1) (addT 1 emp a) b) (hdK a b) = kb a b := by
      have := vd_spec (w := hdK a b) (by have := sp3 hk0; rw [scS_ne h] at this; exact this) (hd_ne h)
      rw [this, kb_eq, hw]
    rw [scS_ne h]
    by_cases hf : a.f ≠ b.f
    · have g : decide (a.f ≠ b.f) = true := by simpa using hf
      refine aS (aS (aR ?_))
      (refine nx (aF (gN rfl) rfl rfl rfl rfl rfl rfl rfl rfl rfl) rfl ?_)
      (refine nx (aLb (gN rfl) rfl rfl rfl rfl rfl rfl rfl rfl rfl rfl rfl rfl) rfl ?_)
      (refine nx (aF (gN rfl) rfl rfl rfl rfl rfl rfl rfl rfl rfl) rfl ?_)
      (refine nx (aLb (gN rfl) rfl rfl rfl rfl rfl rfl rfl rfl rfl rfl rfl rfl) rfl ?_)
      (refine nx (a_neq (gN rfl) rfl rfl rfl rfl rfl rfl) rfl ?_)
      (refine nx (aM (gN rfl) rfl rfl rfl rfl rfl) rfl ?_)
      (refine ⟨_, _, _, a_off (go_off rfl rfl rfl rfl (by first | rfl | assumption | (simp; done) | (simp [*]; done))) rfl rfl rfl, rfl, ?_⟩)
      (refine ⟨_, _, _, a_off (go_off rfl rfl rfl rfl (by first | rfl | assumption | (simp; done) | (simp [*]; done))) rfl rfl rfl, rfl, ?_⟩)
      (refine ⟨_, _, _, a_off (go_off rfl rfl rfl rfl (by first | rfl | assumption | (simp; done) | (simp [*]; done))) rfl rfl rfl, rfl, ?_⟩)
      (refine ⟨_, _, _, a_off (go_off rfl rfl rfl rfl (by first | rfl | assumption | (simp; done) | (simp [*]; done))) rfl rfl rfl, rfl, ?_⟩)
      (refine ⟨_, _, _, a_off (go_off rfl rfl rfl rfl (by first | rfl | assumption | (simp; done) | (simp [*]; done))) rfl rfl rfl, rfl, ?_⟩)
      (refine ⟨_, _, _, aPt (gN rfl) rfl rfl rfl rfl rfl ?hb rfl, rfl, ?_⟩; case hb => (first | rfl | assumption | (simp; done)))
      show AWp _ _ _ _ _ _ _
      refine aC rfl (fun hc => ?_) (fun hc => by cases hc)
      refine aS (aR ?_)
      (refine nx (aM (gN rfl) rfl rfl rfl rfl rfl) rfl ?_)
      (refine nx (aL (gN rfl) rfl rfl rfl rfl rfl rfl rfl rfl rfl rfl rfl rfl) rfl ?_)
      (refine nx (a_callO (gN rfl) rfl rfl rfl rfl rfl (kAdd_abs 1 (.inl rfl) a hr hok emp 0 emp_bds (by omega)) (by repeat (first | exact trivial | refine ⟨rfl, ?_⟩)) (sst_lend _) (sst_leave _) (by first | rfl | kernel_rfl) (by first | rfl | kernel_rfl) (hnb_of (by first | rfl | kernel_rfl))) rfl ?_)
      show AWp _ _ _ _ _ _ _
      refine aS (aR ?_)
      (refine nx (aM (gN rfl) rfl rfl rfl rfl rfl) rfl ?_)
      (refine nx (aL (gN rfl) rfl rfl rfl rfl rfl rfl rfl rfl rfl rfl rfl rfl) rfl ?_)
      (refine nx (a_callO (gN rfl) rfl rfl rfl rfl rfl (kAdd_abs (-1) (.inr rfl) b hbr hbok (addT 1 emp a) (0 + a.size) (emp_bds.addT (.inl rfl)) (by omega)) (by repeat (first | exact trivial | refine ⟨rfl, ?_⟩)) (sst_lend _) (sst_leave _) (by first | rfl | kernel_rfl) (by first | rfl | kernel_rfl) (hnb_of (by first | rfl | kernel_rfl))) rfl ?_)
      show AWp _ _ _ _ _ _ _
      refine aS (aR ?_)
      (refine nx (aM (gN rfl) rfl rfl rfl rfl rfl) rfl ?_)
      (refine nx (aL (gN rfl) rfl rfl rfl rfl rfl rfl rfl rfl rfl rfl rfl rfl) rfl ?_)
      (refine nx (aL (gN rfl) rfl rfl rfl rfl rfl rfl rfl rfl rfl rfl rfl rfl) rfl ?_)
      (refine nx (a_call (gN rfl) rfl rfl rfl rfl rfl (kHeads_abs w a b)) rfl ?_)
      (refine nx (a_callO (gN rfl) rfl rfl rfl rfl rfl (kVerdict_abs (addT (-1) (addT 1 emp a) b) (hdK a b)) (by repeat (first | exact trivial | refine ⟨rfl, ?_⟩)) (sst_lend _) (sst_leave _) (by first | rfl | kernel_rfl) (by first | rfl | kernel_rfl) (hnb_of (by first | rfl | kernel_rfl))) rfl ?_)
      (refine nx (aA (gN rfl) rfl rfl rfl rfl rfl) rfl ?_)
      show AWp _ _ _ _ _ _ _
      rw [hres]
      exact aT ⟨.inr rfl, _, Wk.refl _, rfl, rfl, rfl, rfl, rfl, rfl, rfl, trivial⟩
    · have g : decide (a.f ≠ b.f) = false := by simpa using hf
      refine aS (aS (aR ?_))
      (refine nx (aF (gN rfl) rfl rfl rfl rfl rfl rfl rfl rfl rfl) rfl ?_)
      (refine nx (aLb (gN rfl) rfl rfl rfl rfl rfl rfl rfl rfl rfl rfl rfl rfl) rfl ?_)
      (refine nx (aF (gN rfl) rfl rfl rfl rfl rfl rfl rfl rfl rfl) rfl ?_)
      (refine nx (aLb (gN rfl) rfl rfl rfl rfl rfl rfl rfl rfl rfl rfl rfl rfl) rfl ?_)
      (refine nx (a_neq (gN rfl) rfl rfl rfl rfl rfl rfl) rfl ?_)
      (refine nx (aM (gN rfl) rfl rfl rfl rfl rfl) rfl ?_)
      (refine nx (aM (gd_on rfl rfl rfl rfl (by first | rfl | assumption | (simp; done))) rfl rfl rfl rfl rfl) rfl ?_)
      (refine nx (a_len (gd_on rfl rfl rfl rfl (by first | rfl | assumption | (simp; done))) rfl rfl rfl rfl rfl rfl rfl) rfl ?_)
      (refine nx (aM (gd_on rfl rfl rfl rfl (by first | rfl | assumption | (simp; done))) rfl rfl rfl rfl rfl) rfl ?_)
      (refine nx (a_len (gd_on rfl rfl rfl rfl (by first | rfl | assumption | (simp; done))) rfl rfl rfl rfl rfl rfl rfl) rfl ?_)
      (refine nx (a_neq (gd_on rfl rfl rfl rfl (by first | rfl | assumption | (simp; done))) rfl rfl rfl rfl rfl rfl) rfl ?_)
      (refine ⟨_, _, _, aPf (gN rfl) rfl rfl rfl rfl rfl ?hb rfl, rfl, ?_⟩; case hb => (first | rfl | assumption | (simp; done)))
      show AWp _ _ _ _ _ _ _
      refine aC rfl (fun hc => ?_) (fun hc => ?_)
      case refine_2 =>
        exfalso
        have hc := of_decide_eq_false hc
        simp only [List.length_map, ne_eq, Decidable.not_not] at hc
        omega
      refine aS (aR ?_)
      (refine nx (aM (gN rfl) rfl rfl rfl rfl rfl) rfl ?_)
      (refine nx (aL (gN rfl) rfl rfl rfl rfl rfl rfl rfl rfl rfl rfl rfl rfl) rfl ?_)
      (refine nx (a_callO (gN rfl) rfl rfl rfl rfl rfl (kAdd_abs 1 (.inl rfl) a hr hok emp 0 emp_bds (by omega)) (by repeat (first | exact trivial | refine ⟨rfl, ?_⟩)) (sst_lend _) (sst_leave _) (by first | rfl | kernel_rfl) (by first | rfl | kernel_rfl) (hnb_of (by first | rfl | kernel_rfl))) rfl ?_)
      show AWp _ _ _ _ _ _ _
      refine aS (aR ?_)
      (refine nx (aM (gN rfl) rfl rfl rfl rfl rfl) rfl ?_)
      (refine nx (aL (gN rfl) rfl rfl rfl rfl rfl rfl rfl rfl rfl rfl rfl rfl) rfl ?_)
      (refine nx (a_callO (gN rfl) rfl rfl rfl rfl rfl (kAdd_abs (-1) (.inr rfl) b hbr hbok (addT 1 emp a) (0 + a.size) (emp_bds.addT (.inl rfl)) (by omega)) (by repeat (first | exact trivial | refine ⟨rfl, ?_⟩)) (sst_lend _) (sst_leave _) (by first | rfl | kernel_rfl) (by first | rfl | kernel_rfl) (hnb_of (by first | rfl | kernel_rfl))) rfl ?_)
      show AWp _ _ _ _ _ _ _
      refine aS (aR ?_)
      (refine nx (aM (gN rfl) rfl rfl rfl rfl rfl) rfl ?_)
      (refine nx (aL (gN rfl) rfl rfl rfl rfl rfl rfl rfl rfl rfl rfl rfl rfl) rfl ?_)
      (refine nx (aL (gN rfl) rfl rfl rfl rfl rfl rfl rfl rfl rfl rfl rfl rfl) rfl ?_)
      (refine nx (a_call (gN rfl) rfl rfl rfl rfl rfl (kHeads_abs w a b)) rfl ?_)
      (refine nx (a_callO (gN rfl) rfl rfl rfl rfl rfl (kVerdict_abs (addT (-1) (addT 1 emp a) b) (hdK a b)) (by repeat (first | exact trivial | refine ⟨rfl, ?_⟩)) (sst_lend _) (sst_leave _) (by first | rfl | kernel_rfl) (by first | rfl | kernel_rfl) (hnb_of (by first | rfl | kernel_rfl))) rfl ?_)
      (refine nx (aA (gN rfl) rfl rfl rfl rfl rfl) rfl ?_)
      show AWp _ _ _ _ _ _ _
      rw [hres]
      exact aT ⟨.inr rfl, _, Wk.refl _, rfl, rfl, rfl, rfl, rfl, rfl, rfl, trivial⟩
  case neg =>
    have hf : a.f = b.f := by omega
    have hll : a.ps.length = b.ps.length := by omega
    have hw : wi a b = kbs a.ps b.ps := by unfold wi; rw [if_neg h]
    have g : decide (a.f ≠ b.f) = false := by simpa using hf
    refine aS (aS (aR ?_))
    (refine nx (aF (gN rfl) rfl rfl rfl rfl rfl rfl rfl rfl rfl) rfl ?_)
    (refine nx (aLb (gN rfl) rfl rfl rfl rfl rfl rfl rfl rfl rfl rfl rfl rfl) rfl ?_)
    (refine nx (aF (gN rfl) rfl rfl rfl rfl rfl rfl rfl rfl rfl) rfl ?_)
    (refine nx (aLb (gN rfl) rfl rfl rfl rfl rfl rfl rfl rfl rfl rfl rfl rfl) rfl ?_)
    (refine nx (a_neq (gN rfl) rfl rfl rfl rfl rfl rfl) rfl ?_)
    (refine nx (aM (gN rfl) rfl rfl rfl rfl rfl) rfl ?_)
    (refine nx (aM (gd_on rfl rfl rfl rfl (by first | rfl | assumption | (simp; done))) rfl rfl rfl rfl rfl) rfl ?_)
    (refine nx (a_len (gd_on rfl rfl rfl rfl (by first | rfl | assumption | (simp; done))) rfl rfl rfl rfl rfl rfl rfl) rfl ?_)
    (refine nx (aM (gd_on rfl rfl rfl rfl (by first | rfl | assumption | (simp; done))) rfl rfl rfl rfl rfl) rfl ?_)
    (refine nx (a_len (gd_on rfl rfl rfl rfl (by first | rfl | assumption | (simp; done))) rfl rfl rfl rfl rfl rfl rfl) rfl ?_)
    (refine nx (a_neq (gd_on rfl rfl rfl rfl (by first | rfl | assumption | (simp; done))) rfl rfl rfl rfl rfl rfl) rfl ?_)
    (refine ⟨_, _, _, aPf (gN rfl) rfl rfl rfl rfl rfl ?hb rfl, rfl, ?_⟩; case hb => (first | rfl | assumption | (simp; done)))
    show AWp _ _ _ _ _ _ _
    refine aC rfl (fun hc => ?_) (fun hc => ?_)
    · exfalso
      have hc := of_decide_eq_true hc
      simp only [List.length_map, ne_eq] at hc
      omega
    refine aK ?_
    show AWp _ _ _ _ _ _ _
    refine aS (aS (aR ?_))
    (refine nx (aM (gN rfl) rfl rfl rfl rfl rfl) rfl ?_)
    (refine nx (a_len (gN rfl) rfl rfl rfl rfl rfl rfl rfl) rfl ?_)
    (refine nx (aM (gN rfl) rfl rfl rfl rfl rfl) rfl ?_)
    show AWp _ _ _ _ _ _ _
    refine aB (awp_countI a.ps.length (fun k => ∀ (j : Nat) u v, j < k → a.ps[j]? = some u → b.ps[j]? = some v → kb u v = 0) (fun k => (0, .bp 350001 0 []) :: (7, .val (.lst (a.ps.map Tm.cv))) :: (8, .val (.lst (b.ps.map Tm.cv))) :: (39, .val (.i (a.ps.map Tm.cv).length)) :: (40, .val (.i k)) :: sst emp) (wk_sub ⟨rfl, rfl, rfl, rfl, rfl, rfl, rfl, rfl, rfl, rfl, rfl, trivial⟩) (fun j u v hj => by omega) ?_)
    intro k hk hI
    refine aS (aR ?_)
    (refine nx (a_lss (gN rfl) rfl rfl rfl rfl rfl rfl) rfl ?_)
    show AWp _ _ _ _ _ _ _
    refine aS (aC rfl (fun hlt => ?_) (fun hlt => ?_))
    · have hkl : k < a.ps.length := by simpa using hlt
      obtain ⟨x, hx⟩ : ∃ x, a.ps[k]? = some x := ⟨a.ps[k], List.getElem?_eq_getElem hkl⟩
      obtain ⟨y, hy⟩ : ∃ y, b.ps[k]? = some y := ⟨b.ps[k]'(by omega), List.getElem?_eq_getElem (by omega)⟩
      have hx' := Tm.map_at hx
      have hy' := Tm.map_at hy
      have hxm := List.mem_of_getElem? hx
      have hym := List.mem_of_getElem? hy
      have hxs := Tm.size_part hxm
      have hys := Tm.size_part hym
      have hrec := ih x hxm (hr'.2 x (Tm.ps_mem hxm).1) (hok'.2 x (Tm.ps_mem hxm).1) (by omega) y (hbr'.2 y (Tm.ps_mem hym).1) (hbok'.2 y (Tm.ps_mem hym).1) (by omega)
      obtain ⟨q1, q2, q3⟩ := scS_spec x y
      refine aK ?_
      show AWp _ _ _ _ _ _ _
      refine aS (aB (aS (aR ?_)))
      (refine nx (aM (gN rfl) rfl rfl rfl rfl rfl) rfl ?_)
      (refine nx (aA (gN rfl) rfl rfl rfl rfl rfl) rfl ?_)
      show AWp _ _ _ _ _ _ _
      refine aS (aD (by kernel_rfl) (by kernel_rfl) ?_)
      (refine nx (aM (gN rfl) rfl rfl rfl rfl rfl) rfl ?_)
      (refine nx (aM (gN rfl) rfl rfl rfl rfl rfl) rfl ?_)
      (refine nx (aM (gN rfl) rfl rfl rfl rfl rfl) rfl ?_)
      (refine nx (a_index (j := k) (gN rfl) rfl rfl rfl rfl rfl rfl rfl rfl rfl (hx') rfl (hsz)) rfl ?_)
      (refine nx (a_load_ad (gN rfl) rfl rfl rfl rfl rfl rfl rfl rfl rfl) rfl ?_)
      (refine nx (aM (gN rfl) rfl rfl rfl rfl rfl) rfl ?_)
      (refine nx (aM (gN rfl) rfl rfl rfl rfl rfl) rfl ?_)
      (refine nx (a_index (j := k) (gN rfl) rfl rfl rfl rfl rfl rfl rfl rfl rfl (hy') rfl (hsz2)) rfl ?_)
      (refine nx (a_load_ad (gN rfl) rfl rfl rfl rfl rfl rfl rfl rfl rfl) rfl ?_)
      (refine nx (a_callO (gN rfl) rfl rfl rfl rfl rfl (hrec) (by repeat (first | exact trivial | refine ⟨rfl, ?_⟩)) (sst_lend _) (sst_leave _) (by first | rfl | kernel_rfl) (by first | rfl | kernel_rfl) (hnb_of (by first | rfl | kernel_rfl))) rfl ?_)
      (refine nx (aA (gN rfl) rfl rfl rfl rfl rfl) rfl ?_)
      refine ⟨by kernel_rfl, ?_⟩
      show AWp _ _ _ _ _ _ _
      refine aS (aR ?_)
      (refine nx (aM (gN rfl) rfl rfl rfl rfl rfl) rfl ?_)
      (refine nx (a_neq (gN rfl) rfl rfl rfl rfl rfl rfl) rfl ?_)
      show AWp _ _ _ _ _ _ _
      refine aC rfl (fun hc => ?_) (fun hc => ?_)
      · have hne : kb x y ≠ 0 := by simpa using hc
        obtain ⟨e1, e2⟩ := scs_at hx hy hne hI
        have hk0 : kb a b ≠ 0 := by rw [kb_eq, ne_eq, verd_zero, hw, e2]; exact hne
        obtain ⟨l1, l2⟩ := split_len hx
        obtain ⟨m1, m2⟩ := split_len hy
        have sa := a.size_eq
        have sb := b.size_eq
        have hA : ∀ t ∈ a.ps.drop (k + 1), t.rng ∧ t.ok := fun t ht => ⟨hr'.2 t (Tm.ps_mem (List.mem_of_mem_drop ht)).1, hok'.2 t (Tm.ps_mem (List.mem_of_mem_drop ht)).1⟩
        have hB : ∀ t ∈ b.ps.drop (k + 1), t.rng ∧ t.ok := fun t ht => ⟨hbr'.2 t (Tm.ps_mem (List.mem_of_mem_drop ht)).1, hbok'.2 t (Tm.ps_mem (List.mem_of_mem_drop ht)).1⟩
        have c1 := kAddAll_abs 1 (.inl rfl) (a.ps.drop (k + 1)) (by rw [List.length_drop]; omega) hA (scS x y) (x.size + y.size) q1 (by omega)
        have b1 := q1.addL (σ := 1) (.inl rfl) (l := a.ps.drop (k + 1))
        have c2 := kAddAll_abs (-1) (.inr rfl) (b.ps.drop (k + 1)) (by rw [List.length_drop]; omega) hB _ _ b1 (by omega)
        rw [List.map_drop] at c1 c2
        have hres : vdS (addL (-1) (addL 1 (scS x y) (a.ps.drop (k + 1))) (b.ps.drop (k + 1))) (kb x y) = kb a b := by
          have := vd_spec (w := kb x y) (by have := sp3 hk0; rw [scS_eq h, e1] at this; exact this) hne
          rw [this, kb_eq a b, hw, e2]
        refine aS (aR ?_)
        (refine nx (aM (gN rfl) rfl rfl rfl rfl rfl) rfl ?_)
        (refine nx (aM (gN rfl) rfl rfl rfl rfl rfl) rfl ?_)
        (refine nx (aM (gN rfl) rfl rfl rfl rfl rfl) rfl ?_)
        (refine nx (a_add (gN rfl) rfl rfl rfl rfl rfl rfl (by first | omega | (simp only [List.length_map, List.length_append, List.length_cons, List.length_nil] <;> omega) | (simp <;> omega))) rfl ?_)
        (refine nx (a_from (lo := k + 1) (gN rfl) rfl rfl rfl rfl rfl rfl rfl rfl rfl (by omega) (by first | assumption | exact sZ rfl | exact Tm.size_all _ | exact Bd.size_all _ | exact ints_size _ | exact bys_size _ | exact Lt.size_all _)) rfl ?_)
        (refine nx (a_callO (gN rfl) rfl rfl rfl rfl rfl (c1) (by repeat (first | exact trivial | refine ⟨rfl, ?_⟩)) (sst_lend _) (sst_leave _) (by first | rfl | kernel_rfl) (by first | rfl | kernel_rfl) (hnb_of (by first | rfl | kernel_rfl))) rfl ?_)
        show AWp _ _ _ _ _ _ _
        refine aS (aR ?_)
        (refine nx (aM (gN rfl) rfl rfl rfl rfl rfl) rfl ?_)
        (refine nx (aM (gN rfl) rfl rfl rfl rfl rfl) rfl ?_)
        (refine nx (aM (gN rfl) rfl rfl rfl rfl rfl) rfl ?_)
        (refine nx (a_add (gN rfl) rfl rfl rfl rfl rfl rfl (by first | omega | (simp only [List.length_map, List.length_append, List.length_cons, List.length_nil] <;> omega) | (simp <;> omega))) rfl ?_)
        (refine nx (a_from (lo := k + 1) (gN rfl) rfl rfl rfl rfl rfl rfl rfl rfl rfl (by omega) (by first | assumption | exact sZ rfl | exact Tm.size_all _ | exact Bd.size_all _ | exact ints_size _ | exact bys_size _ | exact Lt.size_all _)) rfl ?_)
        (refine nx (a_callO (gN rfl) rfl rfl rfl rfl rfl (c2) (by repeat (first | exact trivial | refine ⟨rfl, ?_⟩)) (sst_lend _) (sst_leave _) (by first | rfl | kernel_rfl) (by first | rfl | kernel_rfl) (hnb_of (by first | rfl | kernel_rfl))) rfl ?_)
        show AWp _ _ _ _ _ _ _
        refine aS (aR ?_)
        (refine nx (aM (gN rfl) rfl rfl rfl rfl rfl) rfl ?_)
        (refine nx (aM (gN rfl) rfl rfl rfl rfl rfl) rfl ?_)
        (refine nx (a_callO (gN rfl) rfl rfl rfl rfl rfl (kVerdict_abs _ (kb x y)) (by repeat (first | exact trivial | refine ⟨rfl, ?_⟩)) (sst_lend _) (sst_leave _) (by first | rfl | kernel_rfl) (by first | rfl | kernel_rfl) (hnb_of (by first | rfl | kernel_rfl))) rfl ?_)
        (refine nx (aA (gN rfl) rfl rfl rfl rfl rfl) rfl ?_)
        show AWp _ _ _ _ _ _ _
        rw [hres, scS_eq h, e1]
        exact aT ⟨.inr rfl, _, Wk.refl _, rfl, rfl, rfl, rfl, rfl, rfl, rfl, trivial⟩
      · have h0 : kb x y = 0 := by simpa using hc
        rw [q2 h0]
        refine aK ?_
        show AWp _ _ _ _ _ _ _
        refine aR ?_
        (refine nx (a_add (gN rfl) rfl rfl rfl rfl rfl rfl (by first | omega | (simp only [List.length_map, List.length_append, List.length_cons, List.length_nil] <;> omega) | (simp <;> omega))) rfl ?_)
        (refine nx (aM (gN rfl) rfl rfl rfl rfl rfl) rfl ?_)
        refine ⟨hkl, fun j u v hj hu hv => ?_, wk_sub ⟨rfl, rfl, rfl, rfl, rfl, rfl, rfl, rfl, rfl, rfl, rfl, trivial⟩⟩
        rcases Nat.lt_or_ge j k with h | h
        · exact hI j u v h hu hv
        · have : j = k := by omega
          subst this
          rw [hx] at hu
          rw [hy] at hv
          cases hu; cases hv
          exact h0
    · have hkl : k = a.ps.length := by
        have : ¬ k < a.ps.length := by simpa using hlt
        omega
      subst hkl
      obtain ⟨e1, e2⟩ := scs_none (l := a.ps) (m := b.ps) fun j u v hu hv => hI j u v (by
        rcases Nat.lt_or_ge j a.ps.length with h | h
        · exact h
        · rw [List.getElem?_eq_none h] at hu; cases hu) hu hv
      have h0 : kb a b = 0 := by rw [kb_eq, verd_zero, hw, e2]
      rw [h0, sp2 h0]
      refine aE ?_
      show AWp _ _ _ _ _ _ _
      refine aS (aR ?_)
      (refine nx (aA (gN rfl) rfl rfl rfl rfl rfl) rfl ?_)
      show AWp _ _ _ _ _ _ _
      exact aT ⟨.inr rfl, _, Wk.refl _, rfl, rfl, rfl, rfl, rfl, rfl, rfl, trivial⟩
theorem emp_st : sst emp = sstN 0 0 0 := sst_N rfl
-- 
theorem kCmp_abs (W : World) (a b : Tm) (hr : a.rng) (hok : a.ok) (hs : a.size ≤ 100000000000) (hbr : b.rng) (hbok : b.ok) (hbs : b.size ≤ 100000000000) : AFun Try.prog W 37 [a.cw, b.cw] (.val (.i (kb a b))) := by
  have hc := kCompare_abs a hr hok hs b hbr hbok hbs
  rw [emp_st] at hc
  refine afun_of (rs := [.i (kb a b)]) Try.func37 Try.ntmps37 rfl rfl rfl rfl ?_
  intro w U hW
  refine aS (aR ?_)
  (refine nx (a_box (gN rfl) rfl rfl rfl rfl rfl) rfl ?_)
  (refine nx (a_box (gN rfl) rfl rfl rfl rfl rfl) rfl ?_)
  (refine nx (aA (gN rfl) rfl rfl rfl rfl rfl) rfl ?_)
  show AWp _ _ _ _ _ _ _
  refine aS (aR ?_)
  (refine nx (a_alloc9N 350001 (gN rfl) rfl rfl rfl rfl rfl rfl rfl rfl rfl rfl rfl rfl (fun v h => by first | (rw [hW.1] at h; cases h) | (have h2 := hU _ v h; cases h2))) rfl ?_)
  show AWp _ _ _ _ _ _ _
  refine AWp.wk ((wk_sub (s' := [(2, AV.bp 2 0 []), (100002, .bx a.cw), (3, .bp 3 0 []), (100003, .bx b.cw), (5, .bp 350001 0 []), (450001, .obj), (35500100, .val (.i 0)), (35500101, .val (.sc (.map none))), (35500102, .val (.i 0)), (35500103, .val (.i 0))]) ⟨rfl, rfl, rfl, rfl, rfl, by kernel_rfl, by kernel_rfl, by kernel_rfl, by kernel_rfl, by kernel_rfl, trivial⟩).trans (wk_nmap 35500101 300001 rfl rfl rfl (by kernel_rfl) (by kernel_rfl))) ?_
  refine aS (aR ?_)
  (refine nx (aL (gN rfl) rfl rfl rfl rfl rfl rfl rfl rfl rfl rfl rfl rfl) rfl ?_)
  (refine nx (aL (gN rfl) rfl rfl rfl rfl rfl rfl rfl rfl rfl rfl rfl rfl) rfl ?_)
  (refine nx (a_callO (gN rfl) rfl rfl rfl rfl rfl (hc) (by repeat (first | exact trivial | refine ⟨rfl, ?_⟩)) (by kernel_rfl) (sst_leave _) (by first | rfl | kernel_rfl) (by first | rfl | kernel_rfl) (hnb_of (by first | rfl | kernel_rfl))) rfl ?_)
  (refine nx (aA (gN rfl) rfl rfl rfl rfl rfl) rfl ?_)
  show AWp _ _ _ _ _ _ _
  exact aT ⟨.inr rfl, rfl⟩
-- 
theorem kGreater_abs (W : World) (a b : Tm) (hr : a.rng) (hok : a.ok) (hs : a.size ≤ 100000000000) (hbr : b.rng) (hbok : b.ok) (hbs : b.size ≤ 100000000000) : AFun Try.prog W 33 [a.cw, b.cw] (.val (.b (decide (kb a b = 1)))) := by
  refine afun_of (rs := [.b (decide (kb a b = 1))]) Try.func33 Try.ntmps33 rfl rfl rfl rfl ?_
  intro w U hW
  refine aS (aR ?_)
  (refine nx (a_box (gN rfl) rfl rfl rfl rfl rfl) rfl ?_)
  (refine nx (a_box (gN rfl) rfl rfl rfl rfl rfl) rfl ?_)
  (refine nx (aA (gN rfl) rfl rfl rfl rfl rfl) rfl ?_)
  show AWp _ _ _ _ _ _ _
  refine aS (aR ?_)
  (refine nx (aL (gN rfl) rfl rfl rfl rfl rfl rfl rfl rfl rfl rfl rfl rfl) rfl ?_)
  (refine nx (aL (gN rfl) rfl rfl rfl rfl rfl rfl rfl rfl rfl rfl rfl rfl) rfl ?_)
  (refine nx (a_call (gN rfl) rfl rfl rfl rfl rfl (kCmp_abs w a b hr hok hs hbr hbok hbs)) rfl ?_)
  (refine nx (a_eql (gN rfl) rfl rfl rfl rfl rfl rfl) rfl ?_)
  (refine nx (aA (gN rfl) rfl rfl rfl rfl rfl) rfl ?_)
  show AWp _ _ _ _ _ _ _
  exact aT ⟨.inr rfl, rfl⟩
noncomputable def covB (a b : Tm) : Bool := haveI := Classical.propDecidable; decide (cov a b)
def zTm : Tm := ⟨0, []⟩
theorem del_row (a : List Tm) (k i : Nat) (hi : i < a.length) :
    (((a ++ List.replicate k zTm).map Tm.cv).take i ++ ((((a ++ List.replicate k zTm).map Tm.cv).drop (i + 1)).take (a.length - (i + 1)) ++ ((a ++ List.replicate k zTm).map Tm.cv).drop (i + (a.length - (i + 1))))).take (a.length - 1) ++ (List.replicate (a.length - (a.length - 1)) zTm.cv ++ (((a ++ List.replicate k zTm).map Tm.cv).take i ++ ((((a ++ List.replicate k zTm).map Tm.cv).drop (i + 1)).take (a.length - (i + 1)) ++ ((a ++ List.replicate k zTm).map Tm.cv).drop (i + (a.length - (i + 1))))).drop (a.length - 1 + (a.length - (a.length - 1)))) = (a.eraseIdx i ++ List.replicate (k + 1) zTm).map Tm.cv := by
  have e1 : ((a ++ List.replicate k zTm).map Tm.cv).take i = (a.take i).map Tm.cv := by rw [← List.map_take, List.take_append_of_le_length (by omega)]
  have e2 : (((a ++ List.replicate k zTm).map Tm.cv).drop (i + 1)).take (a.length - (i + 1)) = (a.drop (i + 1)).map Tm.cv := by
    rw [← List.map_drop, ← List.map_take, List.drop_append_of_le_length (by omega), List.take_append_of_le_length (by rw [List.length_drop]; exact Nat.le_refl _), List.take_of_length_le (by rw [List.length_drop]; exact Nat.le_refl _)]
  obtain ⟨E, hE⟩ : ∃ E, E = (a.eraseIdx i).map Tm.cv := ⟨_, rfl⟩
  have hEl : E.length = a.length - 1 := by rw [hE, List.length_map, List.length_eraseIdx_of_lt hi]
  have e3 : (a.take i).map Tm.cv ++ ((a.drop (i + 1)).map Tm.cv ++ ((a ++ List.replicate k zTm).map Tm.cv).drop (i + (a.length - (i + 1)))) = E ++ ((a ++ List.replicate k zTm).map Tm.cv).drop (a.length - 1) := by
    rw [← List.append_assoc, ← List.map_append, ← List.eraseIdx_eq_take_drop_succ, ← hE, show i + (a.length - (i + 1)) = a.length - 1 by omega]
  rw [e1, e2, e3]
  have e4 : a.length - (a.length - 1) = 1 := by omega
  have e5 : a.length - 1 + 1 = a.length := by omega
  have e7 : (a.eraseIdx i ++ List.replicate (k + 1) zTm).map Tm.cv = E ++ List.replicate (k + 1) zTm.cv := by rw [List.map_append, ← hE, List.map_replicate]
  rw [e4, e5, ← hEl, List.take_left, e7]
  have e6 : (E ++ ((a ++ List.replicate k zTm).map Tm.cv).drop E.length).drop a.length = List.replicate k zTm.cv := by
    rw [List.drop_append, List.drop_eq_nil_of_le (by omega), List.nil_append, List.drop_drop, show E.length + (a.length - E.length) = a.length by omega, ← List.map_drop, List.drop_left, List.map_replicate]
  rw [e6, List.replicate_succ]
  rfl
theorem take_cv (a : List Tm) (k : Nat) : ((a ++ List.replicate k zTm).map Tm.cv).take a.length = a.map Tm.cv := by rw [← List.map_take, List.take_left]

-- 
theorem idxT_abs (W : World) (p : Tm → Bool) (fc : CV) (c : List Tm) (hl : c.length ≤ 1000000) (hc : ∀ W, ∀ x ∈ c, AFunW Try.prog W fc [x.cw] (.val (.b (p x)))) : AFun Try.prog W 66 [.lst (c.map Tm.cv), fc] (.val (.i (match c.findIdx? p with | some i => (i : Int) | none => -1))) := by
  have hsz := Tm.size_all c
  obtain ⟨R, hR⟩ : ∃ R : Int, R = match c.findIdx? p with | some i => (i : Int) | none => -1 := ⟨_, rfl⟩
  rw [← hR]
  refine afun_of (rs := [.i R]) Try.func66 Try.ntmps66 rfl rfl rfl rfl ?_
  intro w U hW
  refine aS (aR ?_)
  (refine nx (aA (gN rfl) rfl rfl rfl rfl rfl) rfl ?_)
  show AWp _ _ _ _ _ _ _
  refine aS (aS (aR ?_))
  (refine nx (aM (gN rfl) rfl rfl rfl rfl rfl) rfl ?_)
  (refine nx (a_len (gN rfl) rfl rfl rfl rfl rfl rfl rfl) rfl ?_)
  (refine nx (aM (gN rfl) rfl rfl rfl rfl rfl) rfl ?_)
  show AWp _ _ _ _ _ _ _
  refine aB (awp_countI c.length (fun k => ∀ x ∈ c.take k, p x = false) (fun k => [(0, .val (.lst (c.map Tm.cv))), (1, .val fc), (7, .val (.i (c.map Tm.cv).length)), (8, .val (.i k))]) (wk_sub ⟨rfl, rfl, rfl, rfl, trivial⟩) (by simp) ?_)
  intro k hk hI
  refine aS (aR ?_)
  (refine nx (a_lss (gN rfl) rfl rfl rfl rfl rfl rfl) rfl ?_)
  show AWp _ _ _ _ _ _ _
  refine aS (aC rfl (fun hlt => ?_) (fun hlt => ?_))
  · have hkl : k < c.length := by simpa using hlt
    obtain ⟨x, hx⟩ : ∃ x, c[k]? = some x := ⟨c[k], List.getElem?_eq_getElem hkl⟩
    have hx' := Tm.map_at hx
    have hxm := List.mem_of_getElem? hx
    refine aK ?_
    show AWp _ _ _ _ _ _ _
    refine aS (aB (aS (aR ?_)))
    (refine nx (aM (gN rfl) rfl rfl rfl rfl rfl) rfl ?_)
    (refine nx (aA (gN rfl) rfl rfl rfl rfl rfl) rfl ?_)
    show AWp _ _ _ _ _ _ _
    refine aS (aR ?_)
    (refine nx (aM (gN rfl) rfl rfl rfl rfl rfl) rfl ?_)
    (refine nx (aM (gN rfl) rfl rfl rfl rfl rfl) rfl ?_)
    (refine nx (aM (gN rfl) rfl rfl rfl rfl rfl) rfl ?_)
    (refine nx (a_index (j := k) (gN rfl) rfl rfl rfl rfl rfl rfl rfl rfl rfl (hx') rfl (hsz)) rfl ?_)
    (refine nx (a_load_ad (gN rfl) rfl rfl rfl rfl rfl rfl rfl rfl rfl) rfl ?_)
    (refine nx (a_callw (gN rfl) rfl rfl rfl rfl rfl rfl (hc w x hxm)) rfl ?_)
    show AWp _ _ _ _ _ _ _
    refine aC rfl (fun hp => ?_) (fun hp => ?_)
    · have hRk : R = k := by
        rw [hR]
        have : c.findIdx? p = some k := by
          rw [List.findIdx?_eq_some_iff_getElem]
          obtain ⟨hk2, e⟩ := List.getElem?_eq_some_iff.1 hx
          refine ⟨hk2, by rw [e]; exact hp, fun j hj => ?_⟩
          have := hI c[j] (List.mem_take_iff_getElem.2 ⟨j, by omega, rfl⟩)
          simpa using this
        rw [this]
      rw [hRk]
      refine aS (aR ?_)
      (refine nx (aM (gN rfl) rfl rfl rfl rfl rfl) rfl ?_)
      (refine nx (aA (gN rfl) rfl rfl rfl rfl rfl) rfl ?_)
      show AWp _ _ _ _ _ _ _
      exact aT (And.intro (.inr rfl) rfl)
    · refine aK ?_
      show AWp _ _ _ _ _ _ _
      refine aR ?_
      (refine nx (a_add (gN rfl) rfl rfl rfl rfl rfl rfl (by first | omega | (simp only [List.length_map, List.length_append, List.length_cons, List.length_nil] <;> omega) | (simp <;> omega))) rfl ?_)
      (refine nx (aM (gN rfl) rfl rfl rfl rfl rfl) rfl ?_)
      refine ⟨hkl, ?_, wk_sub ⟨rfl, rfl, rfl, rfl, trivial⟩⟩
      intro y hy
      rw [List.take_add_one, hx, List.mem_append] at hy
      rcases hy with hy | hy
      · exact hI y hy
      · simp at hy; rw [hy]; exact hp
  · have hkl : k = c.length := by
      have : ¬ k < c.length := by simpa using hlt
      omega
    subst hkl
    rw [List.take_length] at hI
    have hRn : R = -1 := by
      rw [hR, List.findIdx?_eq_none_iff.2 fun x hx => by rw [hI x hx]]
    rw [hRn]
    refine aE ?_
    show AWp _ _ _ _ _ _ _
    refine aS (aR ?_)
    (refine nx (aA (gN rfl) rfl rfl rfl rfl rfl) rfl ?_)
    show AWp _ _ _ _ _ _ _
    exact aT (And.intro (.inr rfl) rfl)
-- 
theorem conT_abs (W : World) (p : Tm → Bool) (fc : CV) (c : List Tm) (hl : c.length ≤ 1000000) (hc : ∀ W, ∀ x ∈ c, AFunW Try.prog W fc [x.cw] (.val (.b (p x)))) : AFun Try.prog W 55 [.lst (c.map Tm.cv), fc] (.val (.b (c.any p))) := by
  have e : decide ((match c.findIdx? p with | some i => (i : Int) | none => -1) ≥ 0) = c.any p := by
    cases h : c.findIdx? p with
    | none =>
      have h1 := List.findIdx?_eq_none_iff.1 h
      have : c.any p = false := by
        rw [List.any_eq_false]
        intro x hx
        rw [h1 x hx]; simp
      rw [this]; rfl
    | some i =>
      obtain ⟨hi, hp, _⟩ := List.findIdx?_eq_some_iff_getElem.1 h
      have : c.any p = true := List.any_eq_true.2 ⟨_, List.getElem_mem hi, hp⟩
      rw [this]
      simp
  refine afun_of (rs := [.b (c.any p)]) Try.func55 Try.ntmps55 rfl rfl rfl rfl ?_
  intro w U hW
  refine aS (aR ?_)
  (refine nx (aA (gN rfl) rfl rfl rfl rfl rfl) rfl ?_)
  show AWp _ _ _ _ _ _ _
  refine aS (aR ?_)
  (refine nx (aM (gN rfl) rfl rfl rfl rfl rfl) rfl ?_)
  (refine nx (aM (gN rfl) rfl rfl rfl rfl rfl) rfl ?_)
  (refine nx (a_call (gN rfl) rfl rfl rfl rfl rfl (idxT_abs w p fc c hl hc)) rfl ?_)
  (refine nx (a_geq (gN rfl) rfl rfl rfl rfl rfl rfl) rfl ?_)
  (refine nx (aA (gN rfl) rfl rfl rfl rfl rfl) rfl ?_)
  show AWp _ _ _ _ _ _ _
  rw [e]
  exact aT (And.intro (.inr rfl) rfl)
-- 
theorem cloneT400001_abs (L : List Tm) (hn : L.length ≤ 1000000000) : AFunO Try.prog 39 [] [.val (.lst (L.map Tm.cv))] (.sl 400001 0 L.length 2) [(400001, .mrow 31 2 (L.map Tm.cv))] := by
  have hsz := Tm.size_all L
  refine afunO_of Try.func39 Try.ntmps39 rfl rfl rfl rfl rfl rfl ?_
  intro w U hU
  have hUf : U.f 400001 = none := by
    cases e : U.f 400001 with
    | none => rfl
    | some v => have := hU _ v e; cases this
  refine AWp.nil 0 rfl rfl (fun hl => ?_) ?_
  · have hL : L = [] := by simpa using hl
    subst hL
    refine aS (aR ?_)
    (refine nx (aA (gN rfl) rfl rfl rfl rfl rfl) rfl ?_)
    show AWp _ _ _ _ _ _ _
    refine aS (aS (aR ?_))
    (refine nx (aM (gN rfl) rfl rfl rfl rfl rfl) rfl ?_)
    (refine nx (a_isnil (gN rfl) rfl rfl rfl rfl rfl rfl) rfl ?_)
    show AWp _ _ _ _ _ _ _
    refine aC rfl (fun _ => ?_) (fun h => by cases h)
    refine aS (aR ?_)
    (refine nx (aA (gN rfl) rfl rfl rfl rfl rfl) rfl ?_)
    show AWp _ _ _ _ _ _ _
    exact aT ⟨.inr rfl, _, ((wk_nilM 2 250007 31 2 rfl rfl rfl rfl rfl).trans (wk_sub (s' := [(2, .sl 250007 0 0 2), (250007, .mrow 31 2 [])]) ⟨rfl, rfl, trivial⟩)).trans (wk_renF 250007 400001 rfl rfl hUf rfl rfl rfl), rfl, rfl, trivial⟩
  · refine aS (aR ?_)
    (refine nx (aA (gN rfl) rfl rfl rfl rfl rfl) rfl ?_)
    show AWp _ _ _ _ _ _ _
    refine aS (aS (aR ?_))
    (refine nx (aM (gN rfl) rfl rfl rfl rfl rfl) rfl ?_)
    (refine nx (a_notnil (gN rfl) rfl rfl rfl rfl rfl rfl) rfl ?_)
    show AWp _ _ _ _ _ _ _
    refine aC rfl (fun h => by cases h) (fun _ => ?_)
    refine aK ?_
    show AWp _ _ _ _ _ _ _
    refine AWp.wk ((wk_not 0 rfl rfl).trans (wk_sub (s' := [(0, .val (.lst (L.map Tm.cv)))]) ⟨rfl, trivial⟩)) ?_
    refine aS (aR ?_)
    (refine nx (a_bslice0 (gN rfl) rfl rfl rfl rfl rfl rfl rfl rfl) rfl ?_)
    (refine nx (aM (gN rfl) rfl rfl rfl rfl rfl) rfl ?_)
    (refine nx (a_app0M 250007 (gN rfl) rfl rfl rfl rfl rfl rfl rfl rfl rfl rfl rfl rfl rfl rfl rfl (by first | assumption | exact sZ rfl | exact Tm.size_all _ | exact Bd.size_all _ | exact ints_size _ | exact bys_size _ | exact Lt.size_all _) (by first | omega | (simp only [List.length_map, List.length_append, List.length_cons, List.length_nil] <;> omega) | (simp <;> omega))) rfl ?_)
    (refine nx (aA (gN rfl) rfl rfl rfl rfl rfl) rfl ?_)
    show AWp _ _ _ _ _ _ _
    refine aT ⟨.inr rfl, _, (wk_sub (s' := [(2, .sl 250007 0 L.length 2), (250007, .mrow 31 2 (L.map Tm.cv))]) ⟨?_, rfl, trivial⟩).trans (wk_renF 250007 400001 rfl rfl hUf rfl rfl rfl), rfl, rfl, trivial⟩
    show some (AV.sl _ _ _ _) = some (AV.sl _ _ _ _)
    rw [List.length_map]
    rfl
-- 
theorem cloneT400002_abs (L : List Tm) (hn : L.length ≤ 1000000000) : AFunO Try.prog 39 [] [.val (.lst (L.map Tm.cv))] (.sl 400002 0 L.length 2) [(400002, .mrow 31 2 (L.map Tm.cv))] := by
  have hsz := Tm.size_all L
  refine afunO_of Try.func39 Try.ntmps39 rfl rfl rfl rfl rfl rfl ?_
  intro w U hU
  have hUf : U.f 400002 = none := by
    cases e : U.f 400002 with
    | none => rfl
    | some v => have := hU _ v e; cases this
  refine AWp.nil 0 rfl rfl (fun hl => ?_) ?_
  · have hL : L = [] := by simpa using hl
    subst hL
    refine aS (aR ?_)
    (refine nx (aA (gN rfl) rfl rfl rfl rfl rfl) rfl ?_)
    show AWp _ _ _ _ _ _ _
    refine aS (aS (aR ?_))
    (refine nx (aM (gN rfl) rfl rfl rfl rfl rfl) rfl ?_)
    (refine nx (a_isnil (gN rfl) rfl rfl rfl rfl rfl rfl) rfl ?_)
    show AWp _ _ _ _ _ _ _
    refine aC rfl (fun _ => ?_) (fun h => by cases h)
    refine aS (aR ?_)
    (refine nx (aA (gN rfl) rfl rfl rfl rfl rfl) rfl ?_)
    show AWp _ _ _ _ _ _ _
    exact aT ⟨.inr rfl, _, ((wk_nilM 2 250007 31 2 rfl rfl rfl rfl rfl).trans (wk_sub (s' := [(2, .sl 250007 0 0 2), (250007, .mrow 31 2 [])]) ⟨rfl, rfl, trivial⟩)).trans (wk_renF 250007 400002 rfl rfl hUf rfl rfl rfl), rfl, rfl, trivial⟩
  · refine aS (aR ?_)
    (refine nx (aA (gN rfl) rfl rfl rfl rfl rfl) rfl ?_)
    show AWp _ _ _ _ _ _ _
    refine aS (aS (aR ?_))
    (refine nx (aM (gN rfl) rfl rfl rfl rfl rfl) rfl ?_)
    (refine nx (a_notnil (gN rfl) rfl rfl rfl rfl rfl rfl) rfl ?_)
    show AWp _ _ _ _ _ _ _
    refine aC rfl (fun h => by cases h) (fun _ => ?_)
    refine aK ?_
    show AWp _ _ _ _ _ _ _
    refine AWp.wk ((wk_not 0 rfl rfl).trans (wk_sub (s' := [(0, .val (.lst (L.map Tm.cv)))]) ⟨rfl, trivial⟩)) ?_
    refine aS (aR ?_)
    (refine nx (a_bslice0 (gN rfl) rfl rfl rfl rfl rfl rfl rfl rfl) rfl ?_)
    (refine nx (aM (gN rfl) rfl rfl rfl rfl rfl) rfl ?_)
    (refine nx (a_app0M 250007 (gN rfl) rfl rfl rfl rfl rfl rfl rfl rfl rfl rfl rfl rfl rfl rfl rfl (by first | assumption | exact sZ rfl | exact Tm.size_all _ | exact Bd.size_all _ | exact ints_size _ | exact bys_size _ | exact Lt.size_all _) (by first | omega | (simp only [List.length_map, List.length_append, List.length_cons, List.length_nil] <;> omega) | (simp <;> omega))) rfl ?_)
    (refine nx (aA (gN rfl) rfl rfl rfl rfl rfl) rfl ?_)
    show AWp _ _ _ _ _ _ _
    refine aT ⟨.inr rfl, _, (wk_sub (s' := [(2, .sl 250007 0 L.length 2), (250007, .mrow 31 2 (L.map Tm.cv))]) ⟨?_, rfl, trivial⟩).trans (wk_renF 250007 400002 rfl rfl hUf rfl rfl rfl), rfl, rfl, trivial⟩
    show some (AV.sl _ _ _ _) = some (AV.sl _ _ _ _)
    rw [List.length_map]
    rfl
-- 
theorem del400001_abs (a : List Tm) (k i : Nat) (hi : i < a.length) (hb : a.length + k ≤ 1000000) : AFunO Try.prog 69 [(400001, .mrow 31 2 ((a ++ List.replicate k zTm).map Tm.cv))] [.sl 400001 0 a.length 2, .val (.i i), .val (.i ((i : Int) + 1))] (.sl 400001 0 (a.length - 1) 2) [(400001, .mrow 31 2 ((a.eraseIdx i ++ List.replicate (k + 1) zTm).map Tm.cv))] := by
  refine afunO_of Try.func69 Try.ntmps69 rfl rfl rfl rfl rfl rfl ?_
  intro w U hU
  obtain ⟨l, hl⟩ : ∃ l, l = (a ++ List.replicate k zTm).map Tm.cv := ⟨_, rfl⟩
  have hll : l.length = a.length + k := by rw [hl]; simp
  rw [← hl]
  refine aS (aR ?_)
  (refine nx (aA (gN rfl) rfl rfl rfl rfl rfl) rfl ?_)
  show AWp _ _ _ _ _ _ _
  refine aS (aR ?_)
  (refine nx (aM (gN rfl) rfl rfl rfl rfl rfl) rfl ?_)
  (refine nx (aM (gN rfl) rfl rfl rfl rfl rfl) rfl ?_)
  (refine nx (aM (gN rfl) rfl rfl rfl rfl rfl) rfl ?_)
  (refine nx (aM (gN rfl) rfl rfl rfl rfl rfl) rfl ?_)
  (refine nx (a_lenM (gN rfl) rfl rfl rfl rfl rfl rfl rfl) rfl ?_)
  (refine nx (a_cut3 (i) (i + 1) (a.length) (gN rfl) rfl rfl rfl rfl rfl rfl rfl rfl rfl rfl (by first | rfl | omega | (simp only [List.length_set, List.length_map, List.length_append, List.length_cons, List.length_nil] <;> omega) | (simp <;> omega)) (by first | rfl | omega | (simp only [List.length_set, List.length_map, List.length_append, List.length_cons, List.length_nil] <;> omega) | (simp <;> omega)) (by first | rfl | omega | (simp only [List.length_set, List.length_map, List.length_append, List.length_cons, List.length_nil] <;> omega) | (simp <;> omega)) (by first | rfl | omega | (simp only [List.length_set, List.length_map, List.length_append, List.length_cons, List.length_nil] <;> omega) | (simp <;> omega)) (by first | rfl | omega | (simp only [List.length_set, List.length_map, List.length_append, List.length_cons, List.length_nil] <;> omega) | (simp <;> omega)) (by first | rfl | omega | (simp only [List.length_set, List.length_map, List.length_append, List.length_cons, List.length_nil] <;> omega) | (simp <;> omega))) rfl ?_)
  show AWp _ _ _ _ _ _ _
  refine aS (aS (aR ?_))
  (refine nx (aM (gN rfl) rfl rfl rfl rfl rfl) rfl ?_)
  (refine nx (aM (gN rfl) rfl rfl rfl rfl rfl) rfl ?_)
  (refine nx (a_eql (gN rfl) rfl rfl rfl rfl rfl rfl) rfl ?_)
  show AWp _ _ _ _ _ _ _
  refine aC rfl (fun h => ?_) (fun h => ?_)
  · have h : decide ((i : Int) = (i : Int) + 1) = true := h
    have := of_decide_eq_true h
    omega
  refine aK ?_
  show AWp _ _ _ _ _ _ _
  refine AWp.wk (wk_sub (s' := [(0, .sl 400001 0 a.length 2), (1, .val (.i i)), (2, .val (.i ((i : Int) + 1))), (400001, .mrow 31 2 l)]) ⟨rfl, rfl, rfl, rfl, trivial⟩) ?_
  refine aS (aR ?_)
  (refine nx (aM (gN rfl) rfl rfl rfl rfl rfl) rfl ?_)
  (refine nx (a_lenM (gN rfl) rfl rfl rfl rfl rfl rfl rfl) rfl ?_)
  (refine nx (aA (gN rfl) rfl rfl rfl rfl rfl) rfl ?_)
  show AWp _ _ _ _ _ _ _
  refine aS (aD (by kernel_rfl) (by kernel_rfl) ?_)
  (refine nx (aM (gN rfl) rfl rfl rfl rfl rfl) rfl ?_)
  (refine nx (aM (gN rfl) rfl rfl rfl rfl rfl) rfl ?_)
  (refine nx (a_uptoM (j := i) (gN rfl) rfl rfl rfl rfl rfl rfl rfl rfl (by first | rfl | omega | (simp only [List.length_set, List.length_map, List.length_append, List.length_cons, List.length_nil] <;> omega) | (simp <;> omega)) (by first | rfl | omega | (simp only [List.length_set, List.length_map, List.length_append, List.length_cons, List.length_nil] <;> omega) | (simp <;> omega))) rfl ?_)
  (refine nx (aM (gN rfl) rfl rfl rfl rfl rfl) rfl ?_)
  (refine nx (aM (gN rfl) rfl rfl rfl rfl rfl) rfl ?_)
  (refine nx (a_fromM (j := i + 1) (gN rfl) rfl rfl rfl rfl rfl rfl rfl rfl (by first | rfl | omega | (simp only [List.length_set, List.length_map, List.length_append, List.length_cons, List.length_nil] <;> omega) | (simp <;> omega)) (by first | rfl | omega | (simp only [List.length_set, List.length_map, List.length_append, List.length_cons, List.length_nil] <;> omega) | (simp <;> omega))) rfl ?_)
  (refine nx (a_appI (gN rfl) rfl rfl rfl rfl rfl rfl rfl rfl rfl (by first | rfl | omega | (simp only [List.length_set, List.length_map, List.length_append, List.length_cons, List.length_nil] <;> omega) | (simp <;> omega)) (by first | rfl | omega | (simp only [List.length_set, List.length_map, List.length_append, List.length_cons, List.length_nil] <;> omega) | (simp <;> omega))) rfl ?_)
  (refine nx (aA (gN rfl) rfl rfl rfl rfl rfl) rfl ?_)
  refine ⟨by kernel_rfl, ?_⟩
  show AWp _ _ _ _ _ _ _
  obtain ⟨r1, hr1⟩ : ∃ r1, r1 = l.take i ++ ((l.drop (0 + (i + 1))).take (a.length - (i + 1)) ++ l.drop (i + (a.length - (i + 1)))) := ⟨_, rfl⟩
  have hr1l : r1.length = l.length := by rw [hr1]; simp only [List.length_append, List.length_take, List.length_drop]; omega
  have e1 : i + (a.length - (i + 1)) = a.length - 1 := by omega
  refine AWp.wk (wk_sub (s' := [(0, .sl 400001 0 (a.length - 1) 2), (7, .val (.i a.length)), (400001, .mrow 31 2 r1)]) ⟨by rw [← e1]; rfl, rfl, by rw [hr1]; rfl, trivial⟩) ?_
  refine aS (aR ?_)
  (refine nx (aM (gN rfl) rfl rfl rfl rfl rfl) rfl ?_)
  (refine nx (aM (gN rfl) rfl rfl rfl rfl rfl) rfl ?_)
  (refine nx (a_lenM (gN rfl) rfl rfl rfl rfl rfl rfl rfl) rfl ?_)
  (refine nx (aM (gN rfl) rfl rfl rfl rfl rfl) rfl ?_)
  (refine nx (a_cutM (a.length - 1) (a.length) (gN rfl) rfl rfl rfl rfl rfl rfl rfl rfl rfl rfl (by first | rfl | omega | (simp only [List.length_set, List.length_map, List.length_append, List.length_cons, List.length_nil] <;> omega) | (simp <;> omega)) (by first | rfl | omega | (simp only [List.length_set, List.length_map, List.length_append, List.length_cons, List.length_nil] <;> omega) | (simp <;> omega)) (by first | rfl | omega | (simp only [List.length_set, List.length_map, List.length_append, List.length_cons, List.length_nil] <;> omega) | (simp <;> omega)) (by first | rfl | omega | (simp only [List.length_set, List.length_map, List.length_append, List.length_cons, List.length_nil] <;> omega) | (simp <;> omega))) rfl ?_)
  (refine nx (a_clearM (gN rfl) rfl rfl rfl rfl rfl rfl rfl rfl (by first | rfl | omega | (simp only [List.length_set, List.length_map, List.length_append, List.length_cons, List.length_nil] <;> omega) | (simp <;> omega))) rfl ?_)
  show AWp _ _ _ _ _ _ _
  refine aS (aR ?_)
  (refine nx (aM (gN rfl) rfl rfl rfl rfl rfl) rfl ?_)
  (refine nx (aA (gN rfl) rfl rfl rfl rfl rfl) rfl ?_)
  show AWp _ _ _ _ _ _ _
  refine aT ⟨.inr rfl, _, Wk.refl _, rfl, ?_, trivial⟩
  show some (AV.mrow _ _ _) = some (AV.mrow _ _ _)
  have e2 := del_row a k i hi
  rw [← hl] at e2
  rw [← e2, hr1, Nat.zero_add]
  rfl
-- 
theorem del400002_abs (a : List Tm) (k i : Nat) (hi : i < a.length) (hb : a.length + k ≤ 1000000) : AFunO Try.prog 69 [(400002, .mrow 31 2 ((a ++ List.replicate k zTm).map Tm.cv))] [.sl 400002 0 a.length 2, .val (.i i), .val (.i ((i : Int) + 1))] (.sl 400002 0 (a.length - 1) 2) [(400002, .mrow 31 2 ((a.eraseIdx i ++ List.replicate (k + 1) zTm).map Tm.cv))] := by
  refine afunO_of Try.func69 Try.ntmps69 rfl rfl rfl rfl rfl rfl ?_
  intro w U hU
  obtain ⟨l, hl⟩ : ∃ l, l = (a ++ List.replicate k zTm).map Tm.cv := ⟨_, rfl⟩
  have hll : l.length = a.length + k := by rw [hl]; simp
  rw [← hl]
  refine aS (aR ?_)
  (refine nx (aA (gN rfl) rfl rfl rfl rfl rfl) rfl ?_)
  show AWp _ _ _ _ _ _ _
  refine aS (aR ?_)
  (refine nx (aM (gN rfl) rfl rfl rfl rfl rfl) rfl ?_)
  (refine nx (aM (gN rfl) rfl rfl rfl rfl rfl) rfl ?_)
  (refine nx (aM (gN rfl) rfl rfl rfl rfl rfl) rfl ?_)
  (refine nx (aM (gN rfl) rfl rfl rfl rfl rfl) rfl ?_)
  (refine nx (a_lenM (gN rfl) rfl rfl rfl rfl rfl rfl rfl) rfl ?_)
  (refine nx (a_cut3 (i) (i + 1) (a.length) (gN rfl) rfl rfl rfl rfl rfl rfl rfl rfl rfl rfl (by first | rfl | omega | (simp only [List.length_set, List.length_map, List.length_append, List.length_cons, List.length_nil] <;> omega) | (simp <;> omega)) (by first | rfl | omega | (simp only [List.length_set, List.length_map, List.length_append, List.length_cons, List.length_nil] <;> omega) | (simp <;> omega)) (by first | rfl | omega | (simp only [List.length_set, List.length_map, List.length_append, List.length_cons, List.length_nil] <;> omega) | (simp <;> omega)) (by first | rfl | omega | (simp only [List.length_set, List.length_map, List.length_append, List.length_cons, List.length_nil] <;> omega) | (simp <;> omega)) (by first | rfl | omega | (simp only [List.length_set, List.length_map, List.length_append, List.length_cons, List.length_nil] <;> omega) | (simp <;> omega)) (by first | rfl | omega | (simp only [List.length_set, List.length_map, List.length_append, List.length_cons, List.length_nil] <;> omega) | (simp <;> omega))) rfl ?_)
  show AWp _ _ _ _ _ _ _
  refine aS (aS (aR ?_))
  (refine nx (aM (gN rfl) rfl rfl rfl rfl rfl) rfl ?_)
  (refine nx (aM (gN rfl) rfl rfl rfl rfl rfl) rfl ?_)
  (refine nx (a_eql (gN rfl) rfl rfl rfl rfl rfl rfl) rfl ?_)
  show AWp _ _ _ _ _ _ _
  refine aC rfl (fun h => ?_) (fun h => ?_)
  · have h : decide ((i : Int) = (i : Int) + 1) = true := h
    have := of_decide_eq_true h
    omega
  refine aK ?_
  show AWp _ _ _ _ _ _ _
  refine AWp.wk (wk_sub (s' := [(0, .sl 400002 0 a.length 2), (1, .val (.i i)), (2, .val (.i ((i : Int) + 1))), (400002, .mrow 31 2 l)]) ⟨rfl, rfl, rfl, rfl, trivial⟩) ?_
  refine aS (aR ?_)
  (refine nx (aM (gN rfl) rfl rfl rfl rfl rfl) rfl ?_)
  (refine nx (a_lenM (gN rfl) rfl rfl rfl rfl rfl rfl rfl) rfl ?_)
  (refine nx (aA (gN rfl) rfl rfl rfl rfl rfl) rfl ?_)
  show AWp _ _ _ _ _ _ _
  refine aS (aD (by kernel_rfl) (by kernel_rfl) ?_)
  (refine nx (aM (gN rfl) rfl rfl rfl rfl rfl) rfl ?_)
  (refine nx (aM (gN rfl) rfl rfl rfl rfl rfl) rfl ?_)
  (refine nx (a_uptoM (j := i) (gN rfl) rfl rfl rfl rfl rfl rfl rfl rfl (by first | rfl | omega | (simp only [List.length_set, List.length_map, List.length_append, List.length_cons, List.length_nil] <;> omega) | (simp <;> omega)) (by first | rfl | omega | (simp only [List.length_set, List.length_map, List.length_append, List.length_cons, List.length_nil] <;> omega) | (simp <;> omega))) rfl ?_)
  (refine nx (aM (gN rfl) rfl rfl rfl rfl rfl) rfl ?_)
  (refine nx (aM (gN rfl) rfl rfl rfl rfl rfl) rfl ?_)
  (refine nx (a_fromM (j := i + 1) (gN rfl) rfl rfl rfl rfl rfl rfl rfl rfl (by first | rfl | omega | (simp only [List.length_set, List.length_map, List.length_append, List.length_cons, List.length_nil] <;> omega) | (simp <;> omega)) (by first | rfl | omega | (simp only [List.length_set, List.length_map, List.length_append, List.length_cons, List.length_nil] <;> omega) | (simp <;> omega))) rfl ?_)
  (refine nx (a_appI (gN rfl) rfl rfl rfl rfl rfl rfl rfl rfl rfl (by first | rfl | omega | (simp only [List.length_set, List.length_map, List.length_append, List.length_cons, List.length_nil] <;> omega) | (simp <;> omega)) (by first | rfl | omega | (simp only [List.length_set, List.length_map, List.length_append, List.length_cons, List.length_nil] <;> omega) | (simp <;> omega))) rfl ?_)
  (refine nx (aA (gN rfl) rfl rfl rfl rfl rfl) rfl ?_)
  refine ⟨by kernel_rfl, ?_⟩
  show AWp _ _ _ _ _ _ _
  obtain ⟨r1, hr1⟩ : ∃ r1, r1 = l.take i ++ ((l.drop (0 + (i + 1))).take (a.length - (i + 1)) ++ l.drop (i + (a.length - (i + 1)))) := ⟨_, rfl⟩
  have hr1l : r1.length = l.length := by rw [hr1]; simp only [List.length_append, List.length_take, List.length_drop]; omega
  have e1 : i + (a.length - (i + 1)) = a.length - 1 := by omega
  refine AWp.wk (wk_sub (s' := [(0, .sl 400002 0 (a.length - 1) 2), (7, .val (.i a.length)), (400002, .mrow 31 2 r1)]) ⟨by rw [← e1]; rfl, rfl, by rw [hr1]; rfl, trivial⟩) ?_
  refine aS (aR ?_)
  (refine nx (aM (gN rfl) rfl rfl rfl rfl rfl) rfl ?_)
  (refine nx (aM (gN rfl) rfl rfl rfl rfl rfl) rfl ?_)
  (refine nx (a_lenM (gN rfl) rfl rfl rfl rfl rfl rfl rfl) rfl ?_)
  (refine nx (aM (gN rfl) rfl rfl rfl rfl rfl) rfl ?_)
  (refine nx (a_cutM (a.length - 1) (a.length) (gN rfl) rfl rfl rfl rfl rfl rfl rfl rfl rfl rfl (by first | rfl | omega | (simp only [List.length_set, List.length_map, List.length_append, List.length_cons, List.length_nil] <;> omega) | (simp <;> omega)) (by first | rfl | omega | (simp only [List.length_set, List.length_map, List.length_append, List.length_cons, List.length_nil] <;> omega) | (simp <;> omega)) (by first | rfl | omega | (simp only [List.length_set, List.length_map, List.length_append, List.length_cons, List.length_nil] <;> omega) | (simp <;> omega)) (by first | rfl | omega | (simp only [List.length_set, List.length_map, List.length_append, List.length_cons, List.length_nil] <;> omega) | (simp <;> omega))) rfl ?_)
  (refine nx (a_clearM (gN rfl) rfl rfl rfl rfl rfl rfl rfl rfl (by first | rfl | omega | (simp only [List.length_set, List.length_map, List.length_append, List.length_cons, List.length_nil] <;> omega) | (simp <;> omega))) rfl ?_)
  show AWp _ _ _ _ _ _ _
  refine aS (aR ?_)
  (refine nx (aM (gN rfl) rfl rfl rfl rfl rfl) rfl ?_)
  (refine nx (aA (gN rfl) rfl rfl rfl rfl rfl) rfl ?_)
  show AWp _ _ _ _ _ _ _
  refine aT ⟨.inr rfl, _, Wk.refl _, rfl, ?_, trivial⟩
  show some (AV.mrow _ _ _) = some (AV.mrow _ _ _)
  have e2 := del_row a k i hi
  rw [← hl] at e2
  rw [← e2, hr1, Nat.zero_add]
  rfl

-- 
theorem oSame_abs (W : World) (t u : Tm) (ht : t.rng) (hu : u.rng) : AFun Try.prog W 67 [u.cw, .ptr t.cw] (.val (.b (sameT t u))) := by
  refine afun_of (rs := [.b (sameT t u)]) Try.func67 Try.ntmps67 rfl rfl rfl rfl ?_
  intro w U hW
  refine aS (aR ?_)
  (refine nx (a_box (gN rfl) rfl rfl rfl rfl rfl) rfl ?_)
  (refine nx (aA (gN rfl) rfl rfl rfl rfl rfl) rfl ?_)
  show AWp _ _ _ _ _ _ _
  refine aS (aR ?_)
  (refine nx (a_load_ptr (gN rfl) rfl rfl rfl rfl rfl rfl rfl rfl rfl) rfl ?_)
  (refine nx (aL (gN rfl) rfl rfl rfl rfl rfl rfl rfl rfl rfl rfl rfl rfl) rfl ?_)
  (refine nx (a_call (gN rfl) rfl rfl rfl rfl rfl (same_abs w ht hu)) rfl ?_)
  (refine nx (aA (gN rfl) rfl rfl rfl rfl rfl) rfl ?_)
  show AWp _ _ _ _ _ _ _
  exact aT (And.intro (.inr rfl) rfl)
noncomputable def rwT (n : Nat) (a : List Tm) (k : Nat) : Nat × AV := (n, .mrow 31 2 ((a ++ List.replicate k zTm).map Tm.cv))
theorem cut_len : ∀ (n : Nat) (a b : List Tm), (cutN n a b).1.length ≤ a.length ∧ (cutN n a b).2.length ≤ b.length
  | 0, a, b => ⟨Nat.le_refl _, Nat.le_refl _⟩
  | n + 1, a, b => by
    unfold cutN
    split
    · exact cut_len n a b
    · split
      · exact cut_len n a b
      · rename_i k hk
        have h := cut_len n (a.eraseIdx n) (b.eraseIdx k)
        exact ⟨Nat.le_trans h.1 (List.length_eraseIdx_le _ _), Nat.le_trans h.2 (List.length_eraseIdx_le _ _)⟩
theorem cut_mem : ∀ (n : Nat) (a b : List Tm), (∀ t ∈ (cutN n a b).1, t ∈ a) ∧ ∀ t ∈ (cutN n a b).2, t ∈ b
  | 0, a, b => ⟨fun _ h => h, fun _ h => h⟩
  | n + 1, a, b => by
    unfold cutN
    split
    · exact cut_mem n a b
    · split
      · exact cut_mem n a b
      · rename_i k hk
        have h := cut_mem n (a.eraseIdx n) (b.eraseIdx k)
        exact ⟨fun t ht => List.mem_of_mem_eraseIdx (h.1 t ht), fun t ht => List.mem_of_mem_eraseIdx (h.2 t ht)⟩
-- 
theorem oCut_abs (a b : List Tm) (ha : ∀ t ∈ a, t.rng) (hb : ∀ t ∈ b, t.rng) (hal : a.length ≤ 100000) (hbl : b.length ≤ 100000) :
    AFunH Try.prog 52 [rwT 400001 a 0, rwT 400002 b 0] 400001 400002 (fun v1 v2 => [.val (.sc (cutV v1 a.length)), .val (.sc (cutV v2 b.length))]) (fun v1 v2 => .tup [.sc (cutV v1 (cutN a.length a b).1.length), .sc (cutV v2 (cutN a.length a b).2.length)]) [rwT 400001 (cutN a.length a b).1 (a.length - (cutN a.length a b).1.length), rwT 400002 (cutN a.length a b).2 (b.length - (cutN a.length a b).2.length)] := by
  refine afunH_of 2 400001 3 400002 Try.func52 Try.ntmps52 rfl rfl (fun _ _ => rfl) rfl rfl rfl rfl rfl ?_
  intro v1 v2 w U hU
  obtain ⟨X, Y, hXY⟩ : ∃ X Y, cutN a.length a b = (X, Y) := ⟨_, _, rfl⟩
  rw [hXY]
  have hla : ((a ++ List.replicate 0 zTm).map Tm.cv).length = a.length := by simp
  have hlb : ((b ++ List.replicate 0 zTm).map Tm.cv).length = b.length := by simp
  refine AWp.wk ((wk_scsl 0 400001 2 a.length (e := 31) (z := 2) (l := (a ++ List.replicate 0 zTm).map Tm.cv) rfl rfl rfl rfl (by omega)).trans ((wk_scsl 1 400002 3 b.length (e := 31) (z := 2) (l := (b ++ List.replicate 0 zTm).map Tm.cv) rfl rfl rfl rfl (by omega)).trans (wk_sub (s' := [(2, .hdl v1 400001), (3, .hdl v2 400002), (0, .sl 400001 0 a.length 2), (1, .sl 400002 0 b.length 2), rwT 400001 a 0, rwT 400002 b 0]) ⟨rfl, rfl, rfl, rfl, rfl, rfl, trivial⟩))) ?_
  refine aS (aR ?_)
  (refine nx (aA (gN rfl) rfl rfl rfl rfl rfl) rfl ?_)
  (refine nx (aA (gN rfl) rfl rfl rfl rfl rfl) rfl ?_)
  show AWp _ _ _ _ _ _ _
  refine aS (aS (aR ?_))
  (refine nx (aM (gN rfl) rfl rfl rfl rfl rfl) rfl ?_)
  (refine nx (a_lenM (gN rfl) rfl rfl rfl rfl rfl rfl rfl) rfl ?_)
  (refine nx (a_sub (gN rfl) rfl rfl rfl rfl rfl rfl (by first | omega | (simp only [List.length_map, List.length_append, List.length_cons, List.length_nil] <;> omega) | (simp <;> omega))) rfl ?_)
  (refine nx (aA (gN rfl) rfl rfl rfl rfl rfl) rfl ?_)
  show AWp _ _ _ _ _ _ _
  let st : Nat → List Tm → List Tm → Nat → Nat → AS := fun m A B ka kb => [(2, .hdl v1 400001), (3, .hdl v2 400002), (0, .sl 400001 0 A.length 2), (1, .sl 400002 0 B.length 2), (6, .val (.i ((m : Int) - 1))), rwT 400001 A ka, rwT 400002 B kb]
  refine aB (awp_loop (fun j s => ∃ A B ka kb, cutN j A B = (X, Y) ∧ j ≤ A.length ∧ A.length + ka = a.length ∧ B.length + kb = b.length ∧ (∀ t ∈ A, t.rng) ∧ (∀ t ∈ B, t.rng) ∧ s = st j A B ka kb) (s' := st a.length a b 0 0) (wk_sub ⟨rfl, rfl, rfl, rfl, rfl, rfl, rfl, trivial⟩) ⟨a, b, 0, 0, hXY, Nat.le_refl _, rfl, rfl, ha, hb, rfl⟩ ?_)
  rintro m s ⟨A, B, ka, kb, hc, hm, hka, hkb, hA, hB, rfl⟩
  refine aS (aS (aR ?_))
  (refine nx (aM (gN rfl) rfl rfl rfl rfl rfl) rfl ?_)
  (refine nx (a_geq (gN rfl) rfl rfl rfl rfl rfl rfl) rfl ?_)
  show AWp _ _ _ _ _ _ _
  refine aC rfl (fun hlt => ?_) (fun hlt => ?_)
  · have hm0 : 0 < m := by have h3 : decide ((m : Int) - 1 ≥ 0) = true := hlt; have := of_decide_eq_true h3; omega
    obtain ⟨m, rfl⟩ : ∃ q, m = q + 1 := ⟨m - 1, by omega⟩
    have hmA : m < A.length := by omega
    obtain ⟨t, ht⟩ : ∃ t, A[m]? = some t := ⟨A[m], List.getElem?_eq_getElem hmA⟩
    have htr : t.rng := hA t (List.mem_of_getElem? ht)
    have ht' : ((A ++ List.replicate ka zTm).map Tm.cv)[m]? = some t.cw := Tm.map_at (by rw [List.getElem?_append_left hmA]; exact ht)
    have hlA : ((A ++ List.replicate ka zTm).map Tm.cv).length = A.length + ka := by simp
    have hlB : ((B ++ List.replicate kb zTm).map Tm.cv).length = B.length + kb := by simp
    obtain ⟨lA, hlA2⟩ : ∃ lA, lA = (A ++ List.replicate ka zTm).map Tm.cv := ⟨_, rfl⟩
    refine aK ?_
    show AWp _ _ _ _ _ _ _
    refine AWp.wk (wk_sub (s' := [(2, .hdl v1 400001), (3, .hdl v2 400002), (0, .sl 400001 0 A.length 2), (1, .sl 400002 0 B.length 2), (6, .val (.i (((m + 1 : Nat) : Int) - 1))), (400001, .mrow 31 2 lA), rwT 400002 B kb]) ⟨rfl, rfl, rfl, rfl, rfl, by rw [hlA2]; rfl, rfl, trivial⟩) ?_
    rw [← hlA2] at ht' hlA
    refine aS (aB (aS (aR ?_)))
    (refine nx (aM (gN rfl) rfl rfl rfl rfl rfl) rfl ?_)
    (refine nx (aM (gN rfl) rfl rfl rfl rfl rfl) rfl ?_)
    (refine nx (aIm (k := m) (gN rfl) rfl rfl rfl rfl rfl rfl rfl rfl rfl (by first | rfl | omega | (simp only [List.length_set, List.length_map, List.length_append, List.length_cons, List.length_nil] <;> omega) | (simp <;> omega))) rfl ?_)
    (refine nx (a_loadM (gN rfl) rfl rfl rfl rfl rfl rfl rfl rfl (ht') rfl (by first | rfl | omega | (simp only [List.length_set, List.length_map, List.length_append, List.length_cons, List.length_nil] <;> omega) | (simp <;> omega)) rfl rfl) rfl ?_)
    (refine nx (a_alloc (gN rfl) rfl rfl rfl rfl rfl rfl rfl rfl rfl rfl) rfl ?_)
    (refine nx (aSt (gN rfl) rfl rfl rfl rfl rfl rfl rfl rfl rfl rfl) rfl ?_)
    show AWp _ _ _ _ _ _ _
    refine AWp.wk (wk_freeze 7 rfl rfl rfl (s' := [(2, .hdl v1 400001), (3, .hdl v2 400002), (0, .sl 400001 0 A.length 2), (1, .sl 400002 0 B.length 2), (6, .val (.i (((m + 1 : Nat) : Int) - 1))), (400001, .mrow 31 2 lA), rwT 400002 B kb]) ⟨rfl, rfl, rfl, rfl, rfl, rfl, rfl, trivial⟩ rfl rfl rfl) ?_
    have hI := idxT_abs w (sameT t) (.fn 67 0 [.ptr t.cw]) B (by omega) (fun w x hx => .inl ⟨_, _, _, rfl, oSame_abs w t x htr (hB x hx)⟩)
    rw [← take_cv B kb] at hI
    have hI2 := afun_lend1 (e := 31) (z := 2) (nm := 400002) (N := B.length) (by omega) (by omega) (by omega) hI
    refine aS (aR ?_)
    (refine nx (aM (gN rfl) rfl rfl rfl rfl rfl) rfl ?_)
    (refine nx (a_mkfunc (gN rfl) rfl rfl rfl rfl rfl rfl) rfl ?_)
    (refine nx (a_callO (gN rfl) rfl rfl rfl rfl rfl (hI2) (by repeat (first | exact trivial | refine ⟨rfl, ?_⟩)) (by first | rfl | kernel_rfl) (by first | rfl | kernel_rfl) (by first | rfl | kernel_rfl) (by first | rfl | kernel_rfl) (hnb_of (by first | rfl | kernel_rfl))) rfl ?_)
    (refine nx (aA (gN rfl) rfl rfl rfl rfl rfl) rfl ?_)
    show AWp _ _ _ _ _ _ _
    obtain ⟨J, hJ⟩ : ∃ J : Int, J = (match B.findIdx? (sameT t) with | some i => (i : Int) | none => -1) := ⟨_, rfl⟩
    refine AWp.wk (wk_sub (s' := [(2, .hdl v1 400001), (3, .hdl v2 400002), (0, .sl 400001 0 A.length 2), (1, .sl 400002 0 B.length 2), (6, .val (.i (((m + 1 : Nat) : Int) - 1))), (8, .val (.i J)), (400001, .mrow 31 2 lA), rwT 400002 B kb]) ⟨rfl, rfl, rfl, rfl, rfl, by rw [hJ]; rfl, rfl, rfl, trivial⟩) ?_
    refine aS (aR ?_)
    (refine nx (aM (gN rfl) rfl rfl rfl rfl rfl) rfl ?_)
    (refine nx (a_geq (gN rfl) rfl rfl rfl rfl rfl rfl) rfl ?_)
    show AWp _ _ _ _ _ _ _
    unfold cutN at hc
    rw [ht] at hc
    simp only at hc
    refine aC rfl (fun hf => ?_) (fun hf => ?_)
    · have hf : decide (J ≥ 0) = true := hf
      cases hfi : B.findIdx? (sameT t) with
      | none => rw [hfi] at hJ; rw [hJ] at hf; simp at hf
      | some k =>
        rw [hfi] at hJ hc
        have hc : cutN m (A.eraseIdx m) (B.eraseIdx k) = (X, Y) := hc
        obtain ⟨hkl, _, _⟩ := List.findIdx?_eq_some_iff_getElem.1 hfi
        refine AWp.wk (wk_sub (s' := [(2, .hdl v1 400001), (3, .hdl v2 400002), (0, .sl 400001 0 A.length 2), (1, .sl 400002 0 B.length 2), (6, .val (.i (m : Int))), (8, .val (.i (k : Int))), rwT 400001 A ka, rwT 400002 B kb]) ⟨rfl, rfl, rfl, rfl, ?_, by rw [hJ]; rfl, by rw [hlA2]; rfl, rfl, trivial⟩) ?_
        · show some (AV.val (.i (((m + 1 : Nat) : Int) - 1))) = some (AV.val (.i (m : Int)))
          rw [show ((m + 1 : Nat) : Int) - 1 = (m : Int) by omega]
        refine aR ?_
        (refine nx (aM (gN rfl) rfl rfl rfl rfl rfl) rfl ?_)
        (refine nx (aM (gN rfl) rfl rfl rfl rfl rfl) rfl ?_)
        (refine nx (aM (gN rfl) rfl rfl rfl rfl rfl) rfl ?_)
        (refine nx (a_add (gN rfl) rfl rfl rfl rfl rfl rfl (by first | omega | (simp only [List.length_map, List.length_append, List.length_cons, List.length_nil] <;> omega) | (simp <;> omega))) rfl ?_)
        (refine nx (a_callO (gN rfl) rfl rfl rfl rfl rfl (del400001_abs A ka m hmA (by omega)) (by repeat (first | exact trivial | refine ⟨rfl, ?_⟩)) (by first | rfl | kernel_rfl) (by first | rfl | kernel_rfl) (by first | rfl | kernel_rfl) (by first | rfl | kernel_rfl) (hnb_of (by first | rfl | kernel_rfl))) rfl ?_)
        (refine nx (aM (gN rfl) rfl rfl rfl rfl rfl) rfl ?_)
        (refine nx (aM (gN rfl) rfl rfl rfl rfl rfl) rfl ?_)
        (refine nx (aM (gN rfl) rfl rfl rfl rfl rfl) rfl ?_)
        (refine nx (a_add (gN rfl) rfl rfl rfl rfl rfl rfl (by first | omega | (simp only [List.length_map, List.length_append, List.length_cons, List.length_nil] <;> omega) | (simp <;> omega))) rfl ?_)
        (refine nx (a_callO (gN rfl) rfl rfl rfl rfl rfl (del400002_abs B kb k hkl (by omega)) (by repeat (first | exact trivial | refine ⟨rfl, ?_⟩)) (by first | rfl | kernel_rfl) (by first | rfl | kernel_rfl) (by first | rfl | kernel_rfl) (by first | rfl | kernel_rfl) (hnb_of (by first | rfl | kernel_rfl))) rfl ?_)
        (refine nx (aA (gN rfl) rfl rfl rfl rfl rfl) rfl ?_)
        (refine nx (aA (gN rfl) rfl rfl rfl rfl rfl) rfl ?_)
        show AWp _ _ _ _ _ _ _
        have hAe : (A.eraseIdx m).length = A.length - 1 := List.length_eraseIdx_of_lt hmA
        have hBe : (B.eraseIdx k).length = B.length - 1 := List.length_eraseIdx_of_lt hkl
        refine AWp.wk (wk_sub (s' := [(2, .hdl v1 400001), (3, .hdl v2 400002), (0, .sl 400001 0 (A.eraseIdx m).length 2), (1, .sl 400002 0 (B.eraseIdx k).length 2), (6, .val (.i (m : Int))), rwT 400001 (A.eraseIdx m) (ka + 1), rwT 400002 (B.eraseIdx k) (kb + 1)]) ⟨rfl, rfl, by rw [hAe]; rfl, by rw [hBe]; rfl, rfl, rfl, rfl, trivial⟩) ?_
        refine aR ?_
        (refine nx (aM (gN rfl) rfl rfl rfl rfl rfl) rfl ?_)
        (refine nx (a_sub (gN rfl) rfl rfl rfl rfl rfl rfl (by first | omega | (simp only [List.length_map, List.length_append, List.length_cons, List.length_nil] <;> omega) | (simp <;> omega))) rfl ?_)
        (refine nx (aA (gN rfl) rfl rfl rfl rfl rfl) rfl ?_)
        refine ⟨m, st m (A.eraseIdx m) (B.eraseIdx k) (ka + 1) (kb + 1), by omega, ⟨_, _, _, _, hc, by omega, by omega, by omega, fun t h => hA t (List.mem_of_mem_eraseIdx h), fun t h => hB t (List.mem_of_mem_eraseIdx h), rfl⟩, wk_sub ⟨rfl, rfl, rfl, rfl, rfl, rfl, rfl, trivial⟩⟩
    · have hf : decide (J ≥ 0) = false := hf
      cases hfi : B.findIdx? (sameT t) with
      | some k => rw [hfi] at hJ; rw [hJ] at hf; simp at hf
      | none =>
        rw [hfi] at hc
        have hc : cutN m A B = (X, Y) := hc
        refine aK ?_
        show AWp _ _ _ _ _ _ _
        refine AWp.wk (wk_sub (s' := [(2, .hdl v1 400001), (3, .hdl v2 400002), (0, .sl 400001 0 A.length 2), (1, .sl 400002 0 B.length 2), (6, .val (.i (m : Int))), rwT 400001 A ka, rwT 400002 B kb]) ⟨rfl, rfl, rfl, rfl, ?_, by rw [hlA2]; rfl, rfl, trivial⟩) ?_
        · show some (AV.val (.i (((m + 1 : Nat) : Int) - 1))) = some (AV.val (.i (m : Int)))
          rw [show ((m + 1 : Nat) : Int) - 1 = (m : Int) by omega]
        refine aR ?_
        (refine nx (aM (gN rfl) rfl rfl rfl rfl rfl) rfl ?_)
        (refine nx (a_sub (gN rfl) rfl rfl rfl rfl rfl rfl (by first | omega | (simp only [List.length_map, List.length_append, List.length_cons, List.length_nil] <;> omega) | (simp <;> omega))) rfl ?_)
        (refine nx (aA (gN rfl) rfl rfl rfl rfl rfl) rfl ?_)
        refine ⟨m, st m A B ka kb, by omega, ⟨_, _, _, _, hc, by omega, hka, hkb, hA, hB, rfl⟩, wk_sub ⟨rfl, rfl, rfl, rfl, rfl, rfl, rfl, trivial⟩⟩
  · have hm0 : m = 0 := by have h3 : decide ((m : Int) - 1 ≥ 0) = false := hlt; have := of_decide_eq_false h3; omega
    subst hm0
    unfold cutN at hc
    cases hc
    have hkA : ka = a.length - X.length := by omega
    have hkB : kb = b.length - Y.length := by omega
    subst hkA hkB
    refine aE ?_
    show AWp _ _ _ _ _ _ _
    refine aS (aR ?_)
    (refine nx (aM (gN rfl) rfl rfl rfl rfl rfl) rfl ?_)
    (refine nx (aM (gN rfl) rfl rfl rfl rfl rfl) rfl ?_)
    (refine nx (aA (gN rfl) rfl rfl rfl rfl rfl) rfl ?_)
    (refine nx (aA (gN rfl) rfl rfl rfl rfl rfl) rfl ?_)
    show AWp _ _ _ _ _ _ _
    refine aT ⟨.inr rfl, _, (wk_slsc 4 400001 2 rfl rfl rfl).trans (wk_slsc 5 400002 3 rfl rfl rfl), rfl, rfl, rfl, trivial⟩
end Go.Proofs.Ytglbohajmccehaa
namespace Go.Proofs.Ytglbohajmccehaa
open Go.RowKit
set_option linter.unusedVariables false
structure Lt where
  neg : Bool
  a : Tm
  b : Tm
noncomputable abbrev Lt.cw (l : Lt) : CV := .row [.b l.neg, l.a.cw, l.b.cw]
noncomputable def Lt.cv (l : Lt) : CV := l.cw
theorem Lt.size_all (c : List Lt) : ∀ x ∈ c.map Lt.cv, x.size = 5 := by
  intro x hx
  obtain ⟨l, _, rfl⟩ := List.mem_map.1 hx
  rfl
theorem Lt.map_at {c : List Lt} {i : Nat} {l : Lt} (h : c[i]? = some l) : (c.map Lt.cv)[i]? = some l.cw := by rw [List.getElem?_map, h]; rfl
def Lt.strip (l : Lt) : Lt := ⟨l.neg, l.a.strip, l.b.strip⟩
def Lt.rng (l : Lt) : Prop := l.a.rng ∧ l.b.rng
def Lt.ok (l : Lt) : Prop := l.a.ok ∧ l.b.ok
end Go.Proofs.Ytglbohajmccehaa
namespace Go.Proofs.Ytglbohajmccehaa
open Go.RowKit
set_option linter.unusedVariables false
set_option linter.unusedSimpArgs false
set_option maxRecDepth 100000
def Tm.fit (t : Tm) : Prop := t.rng ∧ t.ok ∧ t.size ≤ 90000000000
-- 
theorem oBig_abs (W : World) (t u : Tm) (ht : t.fit) (hu : u.fit) : AFun Try.prog W 70 [u.cw, .ptr t.cw] (.val (.b (decide (kb u t = 1)))) := by
  refine afun_of (rs := [.b (decide (kb u t = 1))]) Try.func70 Try.ntmps70 rfl rfl rfl rfl ?_
  intro w U hW
  refine aS (aR ?_)
  (refine nx (a_box (gN rfl) rfl rfl rfl rfl rfl) rfl ?_)
  (refine nx (aA (gN rfl) rfl rfl rfl rfl rfl) rfl ?_)
  show AWp _ _ _ _ _ _ _
  refine aS (aR ?_)
  (refine nx (aL (gN rfl) rfl rfl rfl rfl rfl rfl rfl rfl rfl rfl rfl rfl) rfl ?_)
  (refine nx (a_load_ptr (gN rfl) rfl rfl rfl rfl rfl rfl rfl rfl rfl) rfl ?_)
  (refine nx (a_call (gN rfl) rfl rfl rfl rfl rfl (kGreater_abs w u t hu.1 hu.2.1 (Nat.le_trans hu.2.2 (by omega)) ht.1 ht.2.1 (Nat.le_trans ht.2.2 (by omega)))) rfl ?_)
  (refine nx (aA (gN rfl) rfl rfl rfl rfl rfl) rfl ?_)
  show AWp _ _ _ _ _ _ _
  exact aT (And.intro (.inr rfl) rfl)
-- 
theorem oLess_abs (W : World) (t : Tm) (l : List Tm) (ht : t.fit) (hl : ∀ u ∈ l, u.fit) (hn : l.length ≤ 100000) : AFun Try.prog W 54 [t.cw, .lst (l.map Tm.cv)] (.val (.b (l.any fun u => decide (kb u t = 1)))) := by
  refine afun_of (rs := [.b (l.any fun u => decide (kb u t = 1))]) Try.func54 Try.ntmps54 rfl rfl rfl rfl ?_
  intro w U hW
  refine aS (aR ?_)
  (refine nx (a_box (gN rfl) rfl rfl rfl rfl rfl) rfl ?_)
  (refine nx (aA (gN rfl) rfl rfl rfl rfl rfl) rfl ?_)
  show AWp _ _ _ _ _ _ _
  refine AWp.wk (wk_freeze 2 rfl rfl rfl (s' := [(1, .val (.lst (l.map Tm.cv)))]) ⟨rfl, trivial⟩ rfl rfl rfl) ?_
  refine aS (aR ?_)
  (refine nx (aM (gN rfl) rfl rfl rfl rfl rfl) rfl ?_)
  (refine nx (a_mkfunc (gN rfl) rfl rfl rfl rfl rfl rfl) rfl ?_)
  (refine nx (a_call (gN rfl) rfl rfl rfl rfl rfl (conT_abs w (fun u => decide (kb u t = 1)) (.fn 70 0 [.ptr t.cw]) l (by omega) (fun w x hx => .inl ⟨_, _, _, rfl, oBig_abs w t x ht (hl x hx)⟩))) rfl ?_)
  (refine nx (aA (gN rfl) rfl rfl rfl rfl rfl) rfl ?_)
  show AWp _ _ _ _ _ _ _
  exact aT (And.intro (.inr rfl) rfl)
-- 
theorem oBey_abs (W : World) (t : Tm) (l : List Tm) (ht : t.fit) (hl : ∀ u ∈ l, u.fit) (hn : l.length ≤ 100000) : AFun Try.prog W 53 [t.cw, .ptr (.lst (l.map Tm.cv))] (.val (.b (!(l.any fun u => decide (kb u t = 1))))) := by
  refine afun_of (rs := [.b (!(l.any fun u => decide (kb u t = 1)))]) Try.func53 Try.ntmps53 rfl rfl rfl rfl ?_
  intro w U hW
  refine aS (aR ?_)
  (refine nx (a_box (gN rfl) rfl rfl rfl rfl rfl) rfl ?_)
  (refine nx (aA (gN rfl) rfl rfl rfl rfl rfl) rfl ?_)
  show AWp _ _ _ _ _ _ _
  refine aS (aR ?_)
  (refine nx (aL (gN rfl) rfl rfl rfl rfl rfl rfl rfl rfl rfl rfl rfl rfl) rfl ?_)
  (refine nx (a_load_ptr (gN rfl) rfl rfl rfl rfl rfl rfl rfl rfl rfl) rfl ?_)
  (refine nx (a_call (gN rfl) rfl rfl rfl rfl rfl (oLess_abs w t l ht hl hn)) rfl ?_)
  (refine nx (a_not (gN rfl) rfl rfl rfl rfl rfl) rfl ?_)
  (refine nx (aA (gN rfl) rfl rfl rfl rfl rfl) rfl ?_)
  show AWp _ _ _ _ _ _ _
  exact aT (And.intro (.inr rfl) rfl)
-- 
theorem oOut_abs (a b : List Tm) (ha : ∀ t ∈ a, t.fit) (hb : ∀ t ∈ b, t.fit) (hal : a.length ≤ 100000) (hbl : b.length ≤ 100000) :
    AFunO Try.prog 36 [rwT 400001 a 0, rwT 400002 b 0] [.sl 400001 0 a.length 2, .sl 400002 0 b.length 2] (.val (.b (mulB a b))) [rwT 400001 (cutN a.length a b).1 (a.length - (cutN a.length a b).1.length), rwT 400002 (cutN a.length a b).2 (b.length - (cutN a.length a b).2.length)] := by
  have hC := oCut_abs a b (fun t h => (ha t h).1) (fun t h => (hb t h).1) hal hbl
  have hcl := cut_len a.length a b
  have hcm := cut_mem a.length a b
  have hmB : mulB a b = outB (cutN a.length a b).1 (cutN a.length a b).2 := rfl
  rw [hmB]
  obtain ⟨X, Y, hXY⟩ : ∃ X Y, cutN a.length a b = (X, Y) := ⟨_, _, rfl⟩
  rw [hXY] at hC hcl hcm ⊢
  simp only at hC hcl hcm ⊢
  have hX : ∀ t ∈ X, t.fit := fun t h => ha t (hcm.1 t h)
  have hY : ∀ t ∈ Y, t.fit := fun t h => hb t (hcm.2 t h)
  refine afunO_of Try.func36 Try.ntmps36 rfl rfl rfl rfl rfl rfl ?_
  intro w U hU
  refine AWp.hdl 20 400001 rfl rfl rfl fun v1 => ?_
  refine AWp.hdl 21 400002 rfl rfl rfl fun v2 => ?_
  refine AWp.wk ((wk_slsc 0 400001 20 rfl rfl rfl).trans ((wk_slsc 1 400002 21 rfl rfl rfl).trans (wk_sub (s' := [(20, .hdl v1 400001), (21, .hdl v2 400002), (0, .val (.sc (cutV v1 a.length))), (1, .val (.sc (cutV v2 b.length))), rwT 400001 a 0, rwT 400002 b 0]) ⟨rfl, rfl, rfl, rfl, rfl, rfl, trivial⟩))) ?_
  refine aS (aR ?_)
  (refine nx (a_box (gN rfl) rfl rfl rfl rfl rfl) rfl ?_)
  (refine nx (aA (gN rfl) rfl rfl rfl rfl rfl) rfl ?_)
  show AWp _ _ _ _ _ _ _
  refine aS (aR ?_)
  (refine nx (aL (gN rfl) rfl rfl rfl rfl rfl rfl rfl rfl rfl rfl rfl rfl) rfl ?_)
  (refine nx (aM (gN rfl) rfl rfl rfl rfl rfl) rfl ?_)
  (refine nx (a_callH 20 21 (gN rfl) rfl rfl rfl rfl (hC) rfl rfl rfl rfl (by repeat (first | exact trivial | refine ⟨rfl, ?_⟩)) (by first | rfl | kernel_rfl) (by first | rfl | kernel_rfl) (by first | rfl | kernel_rfl) (by first | rfl | kernel_rfl) (hnb_of (by first | rfl | kernel_rfl))) rfl ?_)
  (refine nx (aM (gN rfl) rfl rfl rfl rfl rfl) rfl ?_)
  (refine nx (aX (gN rfl) rfl rfl rfl rfl rfl rfl) rfl ?_)
  (refine nx (aX (gN rfl) rfl rfl rfl rfl rfl rfl) rfl ?_)
  (refine nx (aSt (gN rfl) rfl rfl rfl rfl rfl rfl rfl rfl rfl rfl) rfl ?_)
  (refine nx (aA (gN rfl) rfl rfl rfl rfl rfl) rfl ?_)
  show AWp _ _ _ _ _ _ _
  obtain ⟨kx, hkx⟩ : ∃ kx, kx = a.length - X.length := ⟨_, rfl⟩
  obtain ⟨ky, hky⟩ : ∃ ky, ky = b.length - Y.length := ⟨_, rfl⟩
  rw [← hkx, ← hky]
  refine AWp.wk (wk_sub (s' := [(20, .hdl v1 400001), (21, .hdl v2 400002), (1, .val (.sc (cutV v2 Y.length))), (2, .bp 2 0 []), (100002, .bx (.sc (cutV v1 X.length))), rwT 400001 X kx, rwT 400002 Y ky]) ⟨rfl, rfl, rfl, rfl, rfl, rfl, rfl, trivial⟩) ?_
  refine awp_peek (R := fun e => e = .normal ∨ e = .ret) [(1, .lst (Y.map Tm.cv)), (2, .ptr (.lst (X.map Tm.cv)))] 4 (.bool (outB X Y)) [rwT 400001 X kx, rwT 400002 Y ky] ?_ ?_ ⟨rfl, rfl, trivial⟩ rfl rfl rfl (fun e he => ⟨he, _, Wk.refl _, rfl, rfl, rfl, trivial⟩)
  · intro a w D hv h q hq
    obtain ⟨_, _, hr1, hx1⟩ : ∃ u, a.tmps[20]? = some u ∧ RN 400001 ∧ hv 400001 = v1 := h.slot 20 _ rfl (by omega)
    obtain ⟨_, _, hr2, hx2⟩ : ∃ u, a.tmps[21]? = some u ∧ RN 400002 ∧ hv 400002 = v2 := h.slot 21 _ rfl (by omega)
    have w1 := h.view (n := 400001) (e := 31) (z := 2) (l := (X ++ List.replicate kx zTm).map Tm.cv) (len := X.length) rfl hr1 (by simp)
    have w2 := h.view (n := 400002) (e := 31) (z := 2) (l := (Y ++ List.replicate ky zTm).map Tm.cv) (len := Y.length) rfl hr2 (by simp)
    rw [take_cv, hx1] at w1
    rw [take_cv, hx2] at w2
    rcases List.mem_cons.1 hq with rfl | hq
    · obtain ⟨u, g1, g2⟩ := h.slot 1 _ rfl (by omega)
      obtain ⟨rfl, _⟩ := vrep_sc.1 g2.1
      exact ⟨_, g1, w2⟩
    · rcases List.mem_cons.1 hq with rfl | hq
      · exact h.viewBox 2 rfl rfl (by omega) (by show (1 : Nat) ≠ 2; decide) w1
      · cases hq
  · intro w
    have hW : Hw w w topX := ⟨fun _ => rfl, fun _ h => h⟩
    refine aS (aR ?_)
    (refine nx (a_mkfunc (gN rfl) rfl rfl rfl rfl rfl rfl) rfl ?_)
    (refine nx (aA (gN rfl) rfl rfl rfl rfl rfl) rfl ?_)
    show AWp _ _ _ _ _ _ _
    have hcon := conT_abs w (fun t => !(X.any fun u => decide (kb u t = 1))) (.fn 53 0 [.ptr (.lst (X.map Tm.cv))]) Y (by omega) (fun w x hx => .inl ⟨_, _, _, rfl, oBey_abs w x X (hY x hx) hX (by omega)⟩)
    by_cases hX0 : 0 < X.length
    · have g : decide (((X.map Tm.cv).length : Int) > 0) = true := by simp; omega
      have e : outB X Y = !(Y.any fun t => !(X.any fun u => decide (kb u t = 1))) := by unfold outB; rw [decide_eq_true hX0, Bool.true_and]
      rw [e]
      refine aS (aR ?_)
      (refine nx (a_load_ptr (gN rfl) rfl rfl rfl rfl rfl rfl rfl rfl rfl) rfl ?_)
      (refine nx (a_len (gN rfl) rfl rfl rfl rfl rfl rfl rfl) rfl ?_)
      (refine nx (a_gtr (gN rfl) rfl rfl rfl rfl rfl rfl) rfl ?_)
      (refine nx (aM (gN rfl) rfl rfl rfl rfl rfl) rfl ?_)
      (refine nx (aM (gd_on rfl rfl rfl rfl (by first | rfl | assumption | (simp; done))) rfl rfl rfl rfl rfl) rfl ?_)
      (refine nx (aM (gd_on rfl rfl rfl rfl (by first | rfl | assumption | (simp; done))) rfl rfl rfl rfl rfl) rfl ?_)
      (refine nx (a_call (gd_on rfl rfl rfl rfl (by first | rfl | assumption | (simp; done))) rfl rfl rfl rfl rfl (hcon)) rfl ?_)
      (refine nx (a_not (gd_on rfl rfl rfl rfl (by first | rfl | assumption | (simp; done))) rfl rfl rfl rfl rfl) rfl ?_)
      (refine ⟨_, _, _, aPt (gN rfl) rfl rfl rfl rfl rfl ?hb rfl, rfl, ?_⟩; case hb => (first | rfl | assumption | (simp; done)))
      (refine nx (aA (gN rfl) rfl rfl rfl rfl rfl) rfl ?_)
      show AWp _ _ _ _ _ _ _
      exact aT ⟨.inr rfl, rfl⟩
    · have g : decide (((X.map Tm.cv).length : Int) > 0) = false := decide_eq_false (by rw [List.length_map]; omega)
      have e : outB X Y = false := by unfold outB; rw [decide_eq_false hX0, Bool.false_and]
      rw [e]
      refine aS (aR ?_)
      (refine nx (a_load_ptr (gN rfl) rfl rfl rfl rfl rfl rfl rfl rfl rfl) rfl ?_)
      (refine nx (a_len (gN rfl) rfl rfl rfl rfl rfl rfl rfl) rfl ?_)
      (refine nx (a_gtr (gN rfl) rfl rfl rfl rfl rfl rfl) rfl ?_)
      (refine nx (aM (gN rfl) rfl rfl rfl rfl rfl) rfl ?_)
      (refine ⟨_, _, _, a_off (go_off rfl rfl rfl rfl (by first | rfl | assumption | (simp; done) | (simp [*]; done))) rfl rfl rfl, rfl, ?_⟩)
      (refine ⟨_, _, _, a_off (go_off rfl rfl rfl rfl (by first | rfl | assumption | (simp; done) | (simp [*]; done))) rfl rfl rfl, rfl, ?_⟩)
      (refine ⟨_, _, _, a_off (go_off rfl rfl rfl rfl (by first | rfl | assumption | (simp; done) | (simp [*]; done))) rfl rfl rfl, rfl, ?_⟩)
      (refine ⟨_, _, _, a_off (go_off rfl rfl rfl rfl (by first | rfl | assumption | (simp; done) | (simp [*]; done))) rfl rfl rfl, rfl, ?_⟩)
      (refine ⟨_, _, _, aPf (gN rfl) rfl rfl rfl rfl rfl ?hb rfl, rfl, ?_⟩; case hb => (first | rfl | assumption | (simp; done)))
      (refine nx (aA (gN rfl) rfl rfl rfl rfl rfl) rfl ?_)
      show AWp _ _ _ _ _ _ _
      exact aT ⟨.inr rfl, rfl⟩
def tmsL (l : Lt) : List Tm := if l.neg then [l.a, l.a, l.b, l.b] else [l.a, l.b]
theorem tmsL_mem {l : Lt} {p : Tm → Prop} (h : p l.a ∧ p l.b) : ∀ t ∈ tmsL l, p t := by
  intro t ht
  unfold tmsL at ht
  split at ht <;> simp at ht <;> rcases ht with rfl | rfl
  all_goals first | exact h.1 | exact h.2
theorem tmsL_len (l : Lt) : (tmsL l).length ≤ 4 := by unfold tmsL; split <;> simp
-- 
theorem oTerms1_abs (l : Lt) : AFunO Try.prog 34 [] [.val l.cw] (.sl 400001 0 (tmsL l).length 2) [rwT 400001 (tmsL l) 0] := by
  refine afunO_of Try.func34 Try.ntmps34 rfl rfl rfl rfl rfl rfl ?_
  intro w U hU
  have hUf : U.f 400001 = none := by
    cases e : U.f 400001 with
    | none => rfl
    | some v => have := hU _ v e; cases this
  have e1 : l.a.cw = l.a.cv := (Tm.cv_eq _).symm
  have e2 : l.b.cw = l.b.cv := (Tm.cv_eq _).symm
  refine aS (aR ?_)
  (refine nx (a_box (gN rfl) rfl rfl rfl rfl rfl) rfl ?_)
  (refine nx (aA (gN rfl) rfl rfl rfl rfl rfl) rfl ?_)
  show AWp _ _ _ _ _ _ _
  refine aS (aS (aR ?_))
  (refine nx (aF (gN rfl) rfl rfl rfl rfl rfl rfl rfl rfl rfl) rfl ?_)
  (refine nx (aLb (gN rfl) rfl rfl rfl rfl rfl rfl rfl rfl rfl rfl rfl rfl) rfl ?_)
  show AWp _ _ _ _ _ _ _
  refine aC rfl (fun hc => ?_) (fun hc => ?_)
  · have e : tmsL l = [l.a, l.a, l.b, l.b] := by unfold tmsL; rw [if_pos hc]
    rw [e]
    refine aS (aR ?_)
    (refine nx (aF (gN rfl) rfl rfl rfl rfl rfl rfl rfl rfl rfl) rfl ?_)
    (refine nx (aLb (gN rfl) rfl rfl rfl rfl rfl rfl rfl rfl rfl rfl rfl rfl) rfl ?_)
    (refine nx (aF (gN rfl) rfl rfl rfl rfl rfl rfl rfl rfl rfl) rfl ?_)
    (refine nx (aLb (gN rfl) rfl rfl rfl rfl rfl rfl rfl rfl rfl rfl rfl rfl) rfl ?_)
    (refine nx (aF (gN rfl) rfl rfl rfl rfl rfl rfl rfl rfl rfl) rfl ?_)
    (refine nx (aLb (gN rfl) rfl rfl rfl rfl rfl rfl rfl rfl rfl rfl rfl rfl) rfl ?_)
    (refine nx (aF (gN rfl) rfl rfl rfl rfl rfl rfl rfl rfl rfl) rfl ?_)
    (refine nx (aLb (gN rfl) rfl rfl rfl rfl rfl rfl rfl rfl rfl rfl rfl rfl) rfl ?_)
    (refine nx (a_bsliceM 250007 (gN rfl) rfl rfl rfl rfl rfl rfl rfl rfl rfl rfl rfl rfl rfl rfl rfl) rfl ?_)
    (refine nx (aA (gN rfl) rfl rfl rfl rfl rfl) rfl ?_)
    show AWp _ _ _ _ _ _ _
    refine aT ⟨.inr rfl, _, (wk_sub (s' := [(2, .sl 250007 0 4 2), (250007, .mrow 31 2 (([l.a, l.a, l.b, l.b] ++ List.replicate 0 zTm).map Tm.cv))]) ⟨rfl, ?_, trivial⟩).trans (wk_renF 250007 400001 rfl rfl hUf rfl rfl rfl), rfl, rfl, trivial⟩
    show some (AV.mrow _ _ _) = some (AV.mrow _ _ _)
    simp only [List.replicate_zero, List.append_nil, List.map_cons, List.map_nil, Tm.cv_eq]
    rfl
  · have e : tmsL l = [l.a, l.b] := by unfold tmsL; rw [if_neg (by rw [hc]; decide)]
    rw [e]
    refine aK ?_
    show AWp _ _ _ _ _ _ _
    refine aS (aR ?_)
    (refine nx (aF (gN rfl) rfl rfl rfl rfl rfl rfl rfl rfl rfl) rfl ?_)
    (refine nx (aLb (gN rfl) rfl rfl rfl rfl rfl rfl rfl rfl rfl rfl rfl rfl) rfl ?_)
    (refine nx (aF (gN rfl) rfl rfl rfl rfl rfl rfl rfl rfl rfl) rfl ?_)
    (refine nx (aLb (gN rfl) rfl rfl rfl rfl rfl rfl rfl rfl rfl rfl rfl rfl) rfl ?_)
    (refine nx (a_bsliceM 250007 (gN rfl) rfl rfl rfl rfl rfl rfl rfl rfl rfl rfl rfl rfl rfl rfl rfl) rfl ?_)
    (refine nx (aA (gN rfl) rfl rfl rfl rfl rfl) rfl ?_)
    show AWp _ _ _ _ _ _ _
    refine aT ⟨.inr rfl, _, (wk_sub (s' := [(2, .sl 250007 0 2 2), (250007, .mrow 31 2 (([l.a, l.b] ++ List.replicate 0 zTm).map Tm.cv))]) ⟨rfl, ?_, trivial⟩).trans (wk_renF 250007 400001 rfl rfl hUf rfl rfl rfl), rfl, rfl, trivial⟩
    show some (AV.mrow _ _ _) = some (AV.mrow _ _ _)
    simp only [List.replicate_zero, List.append_nil, List.map_cons, List.map_nil, Tm.cv_eq]
    rfl
-- 
theorem oTerms2_abs (l : Lt) : AFunO Try.prog 34 [] [.val l.cw] (.sl 400002 0 (tmsL l).length 2) [rwT 400002 (tmsL l) 0] := by
  refine afunO_of Try.func34 Try.ntmps34 rfl rfl rfl rfl rfl rfl ?_
  intro w U hU
  have hUf : U.f 400002 = none := by
    cases e : U.f 400002 with
    | none => rfl
    | some v => have := hU _ v e; cases this
  have e1 : l.a.cw = l.a.cv := (Tm.cv_eq _).symm
  have e2 : l.b.cw = l.b.cv := (Tm.cv_eq _).symm
  refine aS (aR ?_)
  (refine nx (a_box (gN rfl) rfl rfl rfl rfl rfl) rfl ?_)
  (refine nx (aA (gN rfl) rfl rfl rfl rfl rfl) rfl ?_)
  show AWp _ _ _ _ _ _ _
  refine aS (aS (aR ?_))
  (refine nx (aF (gN rfl) rfl rfl rfl rfl rfl rfl rfl rfl rfl) rfl ?_)
  (refine nx (aLb (gN rfl) rfl rfl rfl rfl rfl rfl rfl rfl rfl rfl rfl rfl) rfl ?_)
  show AWp _ _ _ _ _ _ _
  refine aC rfl (fun hc => ?_) (fun hc => ?_)
  · have e : tmsL l = [l.a, l.a, l.b, l.b] := by unfold tmsL; rw [if_pos hc]
    rw [e]
    refine aS (aR ?_)
    (refine nx (aF (gN rfl) rfl rfl rfl rfl rfl rfl rfl rfl rfl) rfl ?_)
    (refine nx (aLb (gN rfl) rfl rfl rfl rfl rfl rfl rfl rfl rfl rfl rfl rfl) rfl ?_)
    (refine nx (aF (gN rfl) rfl rfl rfl rfl rfl rfl rfl rfl rfl) rfl ?_)
    (refine nx (aLb (gN rfl) rfl rfl rfl rfl rfl rfl rfl rfl rfl rfl rfl rfl) rfl ?_)
    (refine nx (aF (gN rfl) rfl rfl rfl rfl rfl rfl rfl rfl rfl) rfl ?_)
    (refine nx (aLb (gN rfl) rfl rfl rfl rfl rfl rfl rfl rfl rfl rfl rfl rfl) rfl ?_)
    (refine nx (aF (gN rfl) rfl rfl rfl rfl rfl rfl rfl rfl rfl) rfl ?_)
    (refine nx (aLb (gN rfl) rfl rfl rfl rfl rfl rfl rfl rfl rfl rfl rfl rfl) rfl ?_)
    (refine nx (a_bsliceM 250007 (gN rfl) rfl rfl rfl rfl rfl rfl rfl rfl rfl rfl rfl rfl rfl rfl rfl) rfl ?_)
    (refine nx (aA (gN rfl) rfl rfl rfl rfl rfl) rfl ?_)
    show AWp _ _ _ _ _ _ _
    refine aT ⟨.inr rfl, _, (wk_sub (s' := [(2, .sl 250007 0 4 2), (250007, .mrow 31 2 (([l.a, l.a, l.b, l.b] ++ List.replicate 0 zTm).map Tm.cv))]) ⟨rfl, ?_, trivial⟩).trans (wk_renF 250007 400002 rfl rfl hUf rfl rfl rfl), rfl, rfl, trivial⟩
    show some (AV.mrow _ _ _) = some (AV.mrow _ _ _)
    simp only [List.replicate_zero, List.append_nil, List.map_cons, List.map_nil, Tm.cv_eq]
    rfl
  · have e : tmsL l = [l.a, l.b] := by unfold tmsL; rw [if_neg (by rw [hc]; decide)]
    rw [e]
    refine aK ?_
    show AWp _ _ _ _ _ _ _
    refine aS (aR ?_)
    (refine nx (aF (gN rfl) rfl rfl rfl rfl rfl rfl rfl rfl rfl) rfl ?_)
    (refine nx (aLb (gN rfl) rfl rfl rfl rfl rfl rfl rfl rfl rfl rfl rfl rfl) rfl ?_)
    (refine nx (aF (gN rfl) rfl rfl rfl rfl rfl rfl rfl rfl rfl) rfl ?_)
    (refine nx (aLb (gN rfl) rfl rfl rfl rfl rfl rfl rfl rfl rfl rfl rfl rfl) rfl ?_)
    (refine nx (a_bsliceM 250007 (gN rfl) rfl rfl rfl rfl rfl rfl rfl rfl rfl rfl rfl rfl rfl rfl rfl) rfl ?_)
    (refine nx (aA (gN rfl) rfl rfl rfl rfl rfl) rfl ?_)
    show AWp _ _ _ _ _ _ _
    refine aT ⟨.inr rfl, _, (wk_sub (s' := [(2, .sl 250007 0 2 2), (250007, .mrow 31 2 (([l.a, l.b] ++ List.replicate 0 zTm).map Tm.cv))]) ⟨rfl, ?_, trivial⟩).trans (wk_renF 250007 400002 rfl rfl hUf rfl rfl rfl), rfl, rfl, trivial⟩
    show some (AV.mrow _ _ _) = some (AV.mrow _ _ _)
    simp only [List.replicate_zero, List.append_nil, List.map_cons, List.map_nil, Tm.cv_eq]
    rfl

theorem rwT_zero (n : Nat) (a : List Tm) : rwT n a 0 = (n, .mrow 31 2 (a.map Tm.cv)) := by unfold rwT; rw [List.replicate_zero, List.append_nil]
-- 
theorem oMulti_abs (W : World) (a b : List Tm) (ha : ∀ t ∈ a, t.fit) (hb : ∀ t ∈ b, t.fit) (hal : a.length ≤ 100000) (hbl : b.length ≤ 100000) : AFun Try.prog W 21 [.lst (a.map Tm.cv), .lst (b.map Tm.cv)] (.val (.b (mulB a b))) := by
  have hC1 := cloneT400001_abs a (by omega)
  have hC2 := cloneT400002_abs b (by omega)
  rw [← rwT_zero] at hC1 hC2
  have hO := oOut_abs a b ha hb hal hbl
  refine afun_of (rs := [.b (mulB a b)]) Try.func21 Try.ntmps21 rfl rfl rfl rfl ?_
  intro w U hW
  refine aS (aR ?_)
  (refine nx (aA (gN rfl) rfl rfl rfl rfl rfl) rfl ?_)
  show AWp _ _ _ _ _ _ _
  refine aS (aR ?_)
  (refine nx (aM (gN rfl) rfl rfl rfl rfl rfl) rfl ?_)
  (refine nx (a_callO (gN rfl) rfl rfl rfl rfl rfl (hC1) (by repeat (first | exact trivial | refine ⟨rfl, ?_⟩)) (by first | rfl | kernel_rfl) (by first | rfl | kernel_rfl) (by first | rfl | kernel_rfl) (by first | rfl | kernel_rfl) (fun k v h => by first | (rw [hW.1] at h; cases h) | (have h2 := hU k v h; cases h2))) rfl ?_)
  (refine nx (aM (gN rfl) rfl rfl rfl rfl rfl) rfl ?_)
  (refine nx (a_callO (gN rfl) rfl rfl rfl rfl rfl (hC2) (by repeat (first | exact trivial | refine ⟨rfl, ?_⟩)) (by first | rfl | kernel_rfl) (by first | rfl | kernel_rfl) (by first | rfl | kernel_rfl) (by first | rfl | kernel_rfl) (fun k v h => by first | (rw [hW.1] at h; cases h) | (have h2 := hU k v h; cases h2))) rfl ?_)
  (refine nx (a_callO (gN rfl) rfl rfl rfl rfl rfl (hO) (by repeat (first | exact trivial | refine ⟨rfl, ?_⟩)) (by first | rfl | kernel_rfl) (by first | rfl | kernel_rfl) (by first | rfl | kernel_rfl) (by first | rfl | kernel_rfl) (hnb_of (by first | rfl | kernel_rfl))) rfl ?_)
  (refine nx (aA (gN rfl) rfl rfl rfl rfl rfl) rfl ?_)
  show AWp _ _ _ _ _ _ _
  exact aT (And.intro (.inr rfl) rfl)
-- 
theorem oGr_abs (W : World) (x y : Lt) (hx : x.a.fit ∧ x.b.fit) (hy : y.a.fit ∧ y.b.fit) : AFun Try.prog W 17 [x.cw, y.cw] (.val (.b (mulB (tmsL x) (tmsL y)))) := by
  have hT1 := oTerms1_abs x
  have hT2 := oTerms2_abs y
  have l1 := tmsL_len x
  have l2 := tmsL_len y
  have hO := oOut_abs (tmsL x) (tmsL y) (tmsL_mem hx) (tmsL_mem hy) (by omega) (by omega)
  refine afun_of (rs := [.b (mulB (tmsL x) (tmsL y))]) Try.func17 Try.ntmps17 rfl rfl rfl rfl ?_
  intro w U hW
  refine aS (aR ?_)
  (refine nx (a_box (gN rfl) rfl rfl rfl rfl rfl) rfl ?_)
  (refine nx (a_box (gN rfl) rfl rfl rfl rfl rfl) rfl ?_)
  (refine nx (aA (gN rfl) rfl rfl rfl rfl rfl) rfl ?_)
  show AWp _ _ _ _ _ _ _
  refine aS (aD (by kernel_rfl) (by kernel_rfl) ?_)
  (refine nx (aL (gN rfl) rfl rfl rfl rfl rfl rfl rfl rfl rfl rfl rfl rfl) rfl ?_)
  (refine nx (a_callO (gN rfl) rfl rfl rfl rfl rfl (hT1) (by repeat (first | exact trivial | refine ⟨rfl, ?_⟩)) (by first | rfl | kernel_rfl) (by first | rfl | kernel_rfl) (by first | rfl | kernel_rfl) (by first | rfl | kernel_rfl) (fun k v h => by first | (rw [hW.1] at h; cases h) | (have h2 := hU k v h; cases h2))) rfl ?_)
  (refine nx (aL (gN rfl) rfl rfl rfl rfl rfl rfl rfl rfl rfl rfl rfl rfl) rfl ?_)
  (refine nx (a_callO (gN rfl) rfl rfl rfl rfl rfl (hT2) (by repeat (first | exact trivial | refine ⟨rfl, ?_⟩)) (by first | rfl | kernel_rfl) (by first | rfl | kernel_rfl) (by first | rfl | kernel_rfl) (by first | rfl | kernel_rfl) (fun k v h => by first | (rw [hW.1] at h; cases h) | (have h2 := hU k v h; cases h2))) rfl ?_)
  (refine nx (a_callO (gN rfl) rfl rfl rfl rfl rfl (hO) (by repeat (first | exact trivial | refine ⟨rfl, ?_⟩)) (by first | rfl | kernel_rfl) (by first | rfl | kernel_rfl) (by first | rfl | kernel_rfl) (by first | rfl | kernel_rfl) (hnb_of (by first | rfl | kernel_rfl))) rfl ?_)
  (refine nx (aA (gN rfl) rfl rfl rfl rfl rfl) rfl ?_)
  refine ⟨by kernel_rfl, ?_⟩
  show AWp _ _ _ _ _ _ _
  exact aT (And.intro (.inr rfl) rfl)
def len8 (n : Nat) : Int := if n = 0 then 0 else if n = 1 then 1 else if n < 4 then 2 else if n < 8 then 3 else 4
end Go.Proofs.Ytglbohajmccehaa
namespace Go.Proofs.Ytglbohajmccehaa
open Go.RowKit
set_option linter.unusedVariables false
set_option linter.unusedSimpArgs false
def fineB (l : List Tm) : Bool := l.all fun t => decide (0 ≤ smallT t 60 20)

theorem PsT.at {w : World} {base : Nat} {a : Option Addr} {n c : Nat} {ps : List (List Int)} (h : PsT w base (.slice a n c) ps) {i : Nat} (hi : i < ps.length) :
    ∃ (b off : Nat) (x : Pr), a = some ⟨b, off, none⟩ ∧ ps[i]? = some x.p ∧ x.ok (fun b => base ≤ b) w ∧ w.cell? ⟨b, off + i, none⟩ = some (.slice x.a x.n x.c) := by
  obtain ⟨xs, h1, h2, h3⟩ := h
  obtain ⟨a', c', e1, e2, e3, e4, e5⟩ := ownsRow_cs h1
  cases e1
  have hxl : xs.length = ps.length := by rw [← h2, List.length_map]
  have hix : i < xs.length := by omega
  rcases e5 with h | ⟨b, off, ha, hlt, hc⟩
  · rw [List.map_eq_nil_iff] at h; rw [h] at hix; simp at hix
  · refine ⟨b, off, xs[i], ha, ?_, (h3 _ (List.getElem_mem hix)).keep fun b h _ => ⟨h.1, rfl⟩, ?_⟩
    · rw [← h2, List.getElem?_map, List.getElem?_eq_getElem hix]; rfl
    · rw [hc i (by rw [List.length_map]; exact hix), List.getElem?_map, List.getElem?_eq_getElem hix]; rfl

theorem Pr.ok.at {U : Nat → Prop} {w : World} {x : Pr} (h : x.ok U w) {i : Nat} (hi : i < x.n) : ∃ b off z, x.a = some ⟨b, off, none⟩ ∧ U b ∧ b < w.heap.size ∧ x.p[i]? = some z ∧ w.cell? ⟨b, off + i, none⟩ = some (.int .i64 z) := by
  obtain ⟨h1, h2, h3, h4, h5⟩ := h
  have hip : i < x.p.length := by omega
  rcases h5 with h | ⟨b, off, ha, hu, hlt, hc⟩
  · unfold ints at h; rw [List.map_eq_nil_iff] at h; rw [h] at hip; simp at hip
  · refine ⟨b, off, x.p[i], ha, hu, hlt, List.getElem?_eq_getElem hip, ?_⟩
    rw [hc i (by unfold ints; rw [List.length_map]; exact hip)]
    unfold ints
    rw [List.getElem?_map, List.getElem?_eq_getElem hip]; rfl

def tm0 : Tm := .mk 1 [.mk (-1) [], .mk 2 []]
end Go.Proofs.Ytglbohajmccehaa
namespace Go.Proofs.Ytglbohajmccehaa
open Go.RowKit
set_option linter.unusedVariables false
set_option linter.unusedSimpArgs false
set_option maxRecDepth 100000

def ltL (cmp : Lt → Lt → Int) (x y : Lt) : Bool := decide (cmp x y < 0)
def cmpS (x y : Lt) : Int := if cmpT x.a y.a ≠ 0 then cmpT x.a y.a else cmpT x.b y.b
def othL (l : Lt) : Lt := ⟨l.neg, l.b, l.a⟩
def trnL (l : Lt) : Lt := if 0 ≤ cmpT l.a l.b then l else othL l
def holdB (l : Lt) : Bool := !l.neg && sameT l.a l.b
def chkL (L : List Lt) (i : Nat) : Bool := match L[i]?, L[i - 1]? with
  | some x, some y => decide (0 < i) && ((!(x.neg == y.neg)) && decide (cmpS x y = 0))
  | _, _ => false
def adjB (L : List Lt) : Bool := (List.range L.length).any (chkL L)
def srtL (L : List Lt) : List Lt := isortN (ltL cmpS) 0 (L.length - 1) 1 L
def tautP (c : List Lt) : Bool := c.any holdB || adjB (srtL (c.map trnL))
def okC (c : List Lt) : Prop := ∀ l ∈ c, l.a.rng ∧ l.b.rng
-- 
theorem idxL_abs (W : World) (p : Lt → Bool) (fc : CV) (c : List Lt) (hl : c.length ≤ 1000000) (hc : ∀ W, ∀ x ∈ c, AFunW Try.prog W fc [x.cw] (.val (.b (p x)))) : AFun Try.prog W 60 [.lst (c.map Lt.cv), fc] (.val (.i (match c.findIdx? p with | some i => (i : Int) | none => -1))) := by
  have hsz := Lt.size_all c
  obtain ⟨R, hR⟩ : ∃ R : Int, R = match c.findIdx? p with | some i => (i : Int) | none => -1 := ⟨_, rfl⟩
  rw [← hR]
  refine afun_of (rs := [.i R]) Try.func60 Try.ntmps60 rfl rfl rfl rfl ?_
  intro w U hW
  refine aS (aR ?_)
  (refine nx (aA (gN rfl) rfl rfl rfl rfl rfl) rfl ?_)
  show AWp _ _ _ _ _ _ _
  refine aS (aS (aR ?_))
  (refine nx (aM (gN rfl) rfl rfl rfl rfl rfl) rfl ?_)
  (refine nx (a_len (gN rfl) rfl rfl rfl rfl rfl rfl rfl) rfl ?_)
  (refine nx (aM (gN rfl) rfl rfl rfl rfl rfl) rfl ?_)
  show AWp _ _ _ _ _ _ _
  refine aB (awp_countI c.length (fun k => ∀ x ∈ c.take k, p x = false) (fun k => [(0, .val (.lst (c.map Lt.cv))), (1, .val fc), (7, .val (.i (c.map Lt.cv).length)), (8, .val (.i k))]) (wk_sub ⟨rfl, rfl, rfl, rfl, trivial⟩) (by simp) ?_)
  intro k hk hI
  refine aS (aR ?_)
  (refine nx (a_lss (gN rfl) rfl rfl rfl rfl rfl rfl) rfl ?_)
  show AWp _ _ _ _ _ _ _
  refine aS (aC rfl (fun hlt => ?_) (fun hlt => ?_))
  · have hkl : k < c.length := by simpa using hlt
    obtain ⟨x, hx⟩ : ∃ x, c[k]? = some x := ⟨c[k], List.getElem?_eq_getElem hkl⟩
    have hx' := Lt.map_at hx
    have hxm := List.mem_of_getElem? hx
    refine aK ?_
    show AWp _ _ _ _ _ _ _
    refine aS (aB (aS (aR ?_)))
    (refine nx (aM (gN rfl) rfl rfl rfl rfl rfl) rfl ?_)
    (refine nx (aA (gN rfl) rfl rfl rfl rfl rfl) rfl ?_)
    show AWp _ _ _ _ _ _ _
    refine aS (aR ?_)
    (refine nx (aM (gN rfl) rfl rfl rfl rfl rfl) rfl ?_)
    (refine nx (aM (gN rfl) rfl rfl rfl rfl rfl) rfl ?_)
    (refine nx (aM (gN rfl) rfl rfl rfl rfl rfl) rfl ?_)
    (refine nx (a_index (j := k) (gN rfl) rfl rfl rfl rfl rfl rfl rfl rfl rfl (hx') rfl (hsz)) rfl ?_)
    (refine nx (a_load_ad (gN rfl) rfl rfl rfl rfl rfl rfl rfl rfl rfl) rfl ?_)
    (refine nx (a_callw (gN rfl) rfl rfl rfl rfl rfl rfl (hc w x hxm)) rfl ?_)
    show AWp _ _ _ _ _ _ _
    refine aC rfl (fun hp => ?_) (fun hp => ?_)
    · have hRk : R = k := by
        rw [hR]
        have : c.findIdx? p = some k := by
          rw [List.findIdx?_eq_some_iff_getElem]
          obtain ⟨hk2, e⟩ := List.getElem?_eq_some_iff.1 hx
          refine ⟨hk2, by rw [e]; exact hp, fun j hj => ?_⟩
          have := hI c[j] (List.mem_take_iff_getElem.2 ⟨j, by omega, rfl⟩)
          simpa using this
        rw [this]
      rw [hRk]
      refine aS (aR ?_)
      (refine nx (aM (gN rfl) rfl rfl rfl rfl rfl) rfl ?_)
      (refine nx (aA (gN rfl) rfl rfl rfl rfl rfl) rfl ?_)
      show AWp _ _ _ _ _ _ _
      exact aT (And.intro (.inr rfl) rfl)
    · refine aK ?_
      show AWp _ _ _ _ _ _ _
      refine aR ?_
      (refine nx (a_add (gN rfl) rfl rfl rfl rfl rfl rfl (by first | omega | (simp only [List.length_map, List.length_append, List.length_cons, List.length_nil] <;> omega) | (simp <;> omega))) rfl ?_)
      (refine nx (aM (gN rfl) rfl rfl rfl rfl rfl) rfl ?_)
      refine ⟨hkl, ?_, wk_sub ⟨rfl, rfl, rfl, rfl, trivial⟩⟩
      intro y hy
      rw [List.take_add_one, hx, List.mem_append] at hy
      rcases hy with hy | hy
      · exact hI y hy
      · simp at hy; rw [hy]; exact hp
  · have hkl : k = c.length := by
      have : ¬ k < c.length := by simpa using hlt
      omega
    subst hkl
    rw [List.take_length] at hI
    have hRn : R = -1 := by
      rw [hR, List.findIdx?_eq_none_iff.2 fun x hx => by rw [hI x hx]]
    rw [hRn]
    refine aE ?_
    show AWp _ _ _ _ _ _ _
    refine aS (aR ?_)
    (refine nx (aA (gN rfl) rfl rfl rfl rfl rfl) rfl ?_)
    show AWp _ _ _ _ _ _ _
    exact aT (And.intro (.inr rfl) rfl)
-- 
theorem conL_abs (W : World) (p : Lt → Bool) (fc : CV) (c : List Lt) (hl : c.length ≤ 1000000) (hc : ∀ W, ∀ x ∈ c, AFunW Try.prog W fc [x.cw] (.val (.b (p x)))) : AFun Try.prog W 43 [.lst (c.map Lt.cv), fc] (.val (.b (c.any p))) := by
  have e : decide ((match c.findIdx? p with | some i => (i : Int) | none => -1) ≥ 0) = c.any p := by
    cases h : c.findIdx? p with
    | none =>
      have h1 := List.findIdx?_eq_none_iff.1 h
      have : c.any p = false := by
        rw [List.any_eq_false]
        intro x hx
        rw [h1 x hx]; simp
      rw [this]; rfl
    | some i =>
      obtain ⟨hi, hp, _⟩ := List.findIdx?_eq_some_iff_getElem.1 h
      have : c.any p = true := List.any_eq_true.2 ⟨_, List.getElem_mem hi, hp⟩
      rw [this]
      simp
  refine afun_of (rs := [.b (c.any p)]) Try.func43 Try.ntmps43 rfl rfl rfl rfl ?_
  intro w U hW
  refine aS (aR ?_)
  (refine nx (aA (gN rfl) rfl rfl rfl rfl rfl) rfl ?_)
  show AWp _ _ _ _ _ _ _
  refine aS (aR ?_)
  (refine nx (aM (gN rfl) rfl rfl rfl rfl rfl) rfl ?_)
  (refine nx (aM (gN rfl) rfl rfl rfl rfl rfl) rfl ?_)
  (refine nx (a_call (gN rfl) rfl rfl rfl rfl rfl (idxL_abs w p fc c hl hc)) rfl ?_)
  (refine nx (a_geq (gN rfl) rfl rfl rfl rfl rfl rfl) rfl ?_)
  (refine nx (aA (gN rfl) rfl rfl rfl rfl rfl) rfl ?_)
  show AWp _ _ _ _ _ _ _
  rw [e]
  exact aT (And.intro (.inr rfl) rfl)
def wtC (c : List Lt) : Nat := (c.map fun l => l.a.size + l.b.size).sum
def Lt.fit (l : Lt) : Prop := l.a.fit ∧ l.b.fit
def wtL (l : Lt) : Int := (l.a.size : Int) + (l.b.size : Int)
-- 
theorem oWt_abs (W : World) (l : Lt) (h : l.fit) : AFun Try.prog W 59 [l.cw] (.val (.i (wtL l))) := by
  have h1 := h.1.2.2
  have h2 := h.2.2.2
  refine afun_of (rs := [.i (wtL l)]) Try.func59 Try.ntmps59 rfl rfl rfl rfl ?_
  intro w U hW
  refine aS (aR ?_)
  (refine nx (a_box (gN rfl) rfl rfl rfl rfl rfl) rfl ?_)
  (refine nx (aA (gN rfl) rfl rfl rfl rfl rfl) rfl ?_)
  show AWp _ _ _ _ _ _ _
  refine aS (aD (by kernel_rfl) (by kernel_rfl) ?_)
  (refine nx (aF (gN rfl) rfl rfl rfl rfl rfl rfl rfl rfl rfl) rfl ?_)
  (refine nx (aLb (gN rfl) rfl rfl rfl rfl rfl rfl rfl rfl rfl rfl rfl rfl) rfl ?_)
  (refine nx (a_call (gN rfl) rfl rfl rfl rfl rfl (size_abs w h.1.1 (by omega))) rfl ?_)
  (refine nx (aF (gN rfl) rfl rfl rfl rfl rfl rfl rfl rfl rfl) rfl ?_)
  (refine nx (aLb (gN rfl) rfl rfl rfl rfl rfl rfl rfl rfl rfl rfl rfl rfl) rfl ?_)
  (refine nx (a_call (gN rfl) rfl rfl rfl rfl rfl (size_abs w h.2.1 (by omega))) rfl ?_)
  (refine nx (a_add (gN rfl) rfl rfl rfl rfl rfl rfl (by first | omega | (simp only [List.length_map, List.length_append, List.length_cons, List.length_nil] <;> omega) | (simp <;> omega))) rfl ?_)
  (refine nx (aA (gN rfl) rfl rfl rfl rfl rfl) rfl ?_)
  refine ⟨by kernel_rfl, ?_⟩
  show AWp _ _ _ _ _ _ _
  exact aT (And.intro (.inr rfl) rfl)
def hvK (c : List Lt) : Nat → Int × Int
  | 0 => (-1, 0)
  | k + 1 => match c[k]? with
    | none => hvK c k
    | some l => if l.neg = true ∧ (hvK c k).2 < wtL l then ((k : Int), wtL l) else hvK c k
-- 
theorem oHv_abs (W : World) (c : List Lt) (hn : c.length ≤ 100000) (hc : ∀ l ∈ c, l.fit) : AFun Try.prog W 42 [.lst (c.map Lt.cv)] (.val (.i (hvK c c.length).1)) := by
  have hsz := Lt.size_all c
  refine afun_of (rs := [.i (hvK c c.length).1]) Try.func42 Try.ntmps42 rfl rfl rfl rfl ?_
  intro w U hW
  refine aS (aR ?_)
  (refine nx (aA (gN rfl) rfl rfl rfl rfl rfl) rfl ?_)
  show AWp _ _ _ _ _ _ _
  refine aS (aR ?_)
  (refine nx (aA (gN rfl) rfl rfl rfl rfl rfl) rfl ?_)
  (refine nx (aA (gN rfl) rfl rfl rfl rfl rfl) rfl ?_)
  show AWp _ _ _ _ _ _ _
  refine aS (aS (aR ?_))
  (refine nx (aM (gN rfl) rfl rfl rfl rfl rfl) rfl ?_)
  (refine nx (a_len (gN rfl) rfl rfl rfl rfl rfl rfl rfl) rfl ?_)
  (refine nx (aM (gN rfl) rfl rfl rfl rfl rfl) rfl ?_)
  show AWp _ _ _ _ _ _ _
  let st : Nat → AS := fun k => [(3, .val (.i (hvK c k).1)), (4, .val (.i (hvK c k).2)), (8, .val (.lst (c.map Lt.cv))), (9, .val (.i (c.map Lt.cv).length)), (10, .val (.i k))]
  refine aB (awp_count c.length st (wk_sub ⟨rfl, rfl, rfl, rfl, rfl, trivial⟩) ?_)
  intro k hk
  refine aS (aR ?_)
  (refine nx (a_lss (gN rfl) rfl rfl rfl rfl rfl rfl) rfl ?_)
  show AWp _ _ _ _ _ _ _
  refine aS (aC rfl (fun hlt => ?_) (fun hlt => ?_))
  · have hkl : k < c.length := by simpa using hlt
    obtain ⟨x, hx⟩ : ∃ x, c[k]? = some x := ⟨c[k], List.getElem?_eq_getElem hkl⟩
    have hx' := Lt.map_at hx
    have hxf := hc x (List.mem_of_getElem? hx)
    have hK : hvK c (k + 1) = if x.neg = true ∧ (hvK c k).2 < wtL x then ((k : Int), wtL x) else hvK c k := by conv => lhs; unfold hvK; rw [hx]
    refine aK ?_
    show AWp _ _ _ _ _ _ _
    refine aS (aB (aS (aR ?_)))
    (refine nx (aM (gN rfl) rfl rfl rfl rfl rfl) rfl ?_)
    (refine nx (a_index (j := k) (gN rfl) rfl rfl rfl rfl rfl rfl rfl rfl rfl (hx') rfl (hsz)) rfl ?_)
    (refine nx (a_load_ad (gN rfl) rfl rfl rfl rfl rfl rfl rfl rfl rfl) rfl ?_)
    (refine nx (a_alloc (gN rfl) rfl rfl rfl rfl rfl rfl rfl rfl rfl rfl) rfl ?_)
    (refine nx (aA (gN rfl) rfl rfl rfl rfl rfl) rfl ?_)
    (refine nx (aSt (gN rfl) rfl rfl rfl rfl rfl rfl rfl rfl rfl rfl) rfl ?_)
    show AWp _ _ _ _ _ _ _
    refine AWp.wk (wk_sub (s' := [(3, .val (.i (hvK c k).1)), (4, .val (.i (hvK c k).2)), (5, .val (.i k)), (6, .bp 6 0 []), (100006, .bx x.cw), (8, .val (.lst (c.map Lt.cv))), (9, .val (.i (c.map Lt.cv).length)), (10, .val (.i k))]) ⟨rfl, rfl, rfl, rfl, rfl, rfl, rfl, rfl, trivial⟩) ?_
    refine aS (aS (aR ?_))
    (refine nx (aF (gN rfl) rfl rfl rfl rfl rfl rfl rfl rfl rfl) rfl ?_)
    (refine nx (aLb (gN rfl) rfl rfl rfl rfl rfl rfl rfl rfl rfl rfl rfl rfl) rfl ?_)
    (refine nx (a_not (gN rfl) rfl rfl rfl rfl rfl) rfl ?_)
    show AWp _ _ _ _ _ _ _
    refine aC rfl (fun hb => ?_) (fun hb => ?_)
    · have hb : (!x.neg) = true := hb
      have hng : x.neg = false := by simpa using hb
      have e : hvK c (k + 1) = hvK c k := by rw [hK, if_neg (by rw [hng]; simp)]
      refine aE ?_
      show AWp _ _ _ _ _ _ _
      refine aR ?_
      (refine nx (a_add (gN rfl) rfl rfl rfl rfl rfl rfl (by first | omega | (simp only [List.length_map, List.length_append, List.length_cons, List.length_nil] <;> omega) | (simp <;> omega))) rfl ?_)
      (refine nx (aM (gN rfl) rfl rfl rfl rfl rfl) rfl ?_)
      refine ⟨hkl, wk_sub ⟨?_, ?_, rfl, rfl, rfl, trivial⟩⟩
      · rw [e]; rfl
      · rw [e]; rfl
    · have hb : (!x.neg) = false := hb
      have hng : x.neg = true := by simpa using hb
      refine aK ?_
      show AWp _ _ _ _ _ _ _
      refine aS (aR ?_)
      (refine nx (aL (gN rfl) rfl rfl rfl rfl rfl rfl rfl rfl rfl rfl rfl rfl) rfl ?_)
      (refine nx (a_call (gN rfl) rfl rfl rfl rfl rfl (oWt_abs w x hxf)) rfl ?_)
      (refine nx (aA (gN rfl) rfl rfl rfl rfl rfl) rfl ?_)
      show AWp _ _ _ _ _ _ _
      refine aS (aR ?_)
      (refine nx (aM (gN rfl) rfl rfl rfl rfl rfl) rfl ?_)
      (refine nx (aM (gN rfl) rfl rfl rfl rfl rfl) rfl ?_)
      (refine nx (a_gtr (gN rfl) rfl rfl rfl rfl rfl rfl) rfl ?_)
      show AWp _ _ _ _ _ _ _
      refine aC rfl (fun hg => ?_) (fun hg => ?_)
      · have hg : decide (wtL x > (hvK c k).2) = true := hg
        have hg := of_decide_eq_true hg
        have e : hvK c (k + 1) = ((k : Int), wtL x) := by rw [hK, if_pos ⟨hng, by omega⟩]
        refine aR ?_
        (refine nx (aM (gN rfl) rfl rfl rfl rfl rfl) rfl ?_)
        (refine nx (aM (gN rfl) rfl rfl rfl rfl rfl) rfl ?_)
        (refine nx (aA (gN rfl) rfl rfl rfl rfl rfl) rfl ?_)
        (refine nx (aA (gN rfl) rfl rfl rfl rfl rfl) rfl ?_)
        show AWp _ _ _ _ _ _ _
        refine aR ?_
        (refine nx (a_add (gN rfl) rfl rfl rfl rfl rfl rfl (by first | omega | (simp only [List.length_map, List.length_append, List.length_cons, List.length_nil] <;> omega) | (simp <;> omega))) rfl ?_)
        (refine nx (aM (gN rfl) rfl rfl rfl rfl rfl) rfl ?_)
        refine ⟨hkl, wk_sub ⟨?_, ?_, rfl, rfl, rfl, trivial⟩⟩
        · rw [e]; rfl
        · rw [e]; rfl
      · have hg : decide (wtL x > (hvK c k).2) = false := hg
        have hg := of_decide_eq_false hg
        have e : hvK c (k + 1) = hvK c k := by rw [hK, if_neg (fun h => by have := h.2; omega)]
        refine aK ?_
        show AWp _ _ _ _ _ _ _
        refine aR ?_
        (refine nx (a_add (gN rfl) rfl rfl rfl rfl rfl rfl (by first | omega | (simp only [List.length_map, List.length_append, List.length_cons, List.length_nil] <;> omega) | (simp <;> omega))) rfl ?_)
        (refine nx (aM (gN rfl) rfl rfl rfl rfl rfl) rfl ?_)
        refine ⟨hkl, wk_sub ⟨?_, ?_, rfl, rfl, rfl, trivial⟩⟩
        · rw [e]; rfl
        · rw [e]; rfl
  · have hkl : k = c.length := by
      have : ¬ k < c.length := by simpa using hlt
      omega
    subst hkl
    refine aE ?_
    show AWp _ _ _ _ _ _ _
    refine aS (aR ?_)
    (refine nx (aM (gN rfl) rfl rfl rfl rfl rfl) rfl ?_)
    (refine nx (aA (gN rfl) rfl rfl rfl rfl rfl) rfl ?_)
    show AWp _ _ _ _ _ _ _
    exact aT (And.intro (.inr rfl) rfl)
noncomputable def gstL (c : List Lt) (x : Lt) : Bool := !(c.any fun l => mulB (tmsL l) (tmsL x))
noncomputable def gstI (c : List Lt) (i : Int) : Bool := if 0 ≤ i then (match c[i.toNat]? with | some x => gstL c x | none => false) else false
-- 
theorem oGstF_abs (W : World) (c : List Lt) (k : Nat) (x l : Lt) (hx : c[k]? = some x) (hxf : x.fit) (hl : l.fit) : AFun Try.prog W 44 [l.cw, .ptr (.lst (c.map Lt.cv)), .ptr (.i (k : Int))] (.val (.b (mulB (tmsL l) (tmsL x)))) := by
  have hsz := Lt.size_all c
  have hx' := Lt.map_at hx
  refine afun_of (rs := [.b (mulB (tmsL l) (tmsL x))]) Try.func44 Try.ntmps44 rfl rfl rfl rfl ?_
  intro w U hW
  refine aS (aR ?_)
  (refine nx (a_box (gN rfl) rfl rfl rfl rfl rfl) rfl ?_)
  (refine nx (aA (gN rfl) rfl rfl rfl rfl rfl) rfl ?_)
  show AWp _ _ _ _ _ _ _
  refine aS (aD (by kernel_rfl) (by kernel_rfl) ?_)
  (refine nx (aL (gN rfl) rfl rfl rfl rfl rfl rfl rfl rfl rfl rfl rfl rfl) rfl ?_)
  (refine nx (a_load_ptr (gN rfl) rfl rfl rfl rfl rfl rfl rfl rfl rfl) rfl ?_)
  (refine nx (a_load_ptr (gN rfl) rfl rfl rfl rfl rfl rfl rfl rfl rfl) rfl ?_)
  (refine nx (a_index (j := k) (gN rfl) rfl rfl rfl rfl rfl rfl rfl rfl rfl (hx') rfl (hsz)) rfl ?_)
  (refine nx (a_load_ad (gN rfl) rfl rfl rfl rfl rfl rfl rfl rfl rfl) rfl ?_)
  (refine nx (a_call (gN rfl) rfl rfl rfl rfl rfl (oGr_abs w l x hl hxf)) rfl ?_)
  (refine nx (aA (gN rfl) rfl rfl rfl rfl rfl) rfl ?_)
  refine ⟨by kernel_rfl, ?_⟩
  show AWp _ _ _ _ _ _ _
  exact aT (And.intro (.inr rfl) rfl)
-- 
theorem oGst_abs (W : World) (c : List Lt) (i : Int) (hn : c.length ≤ 100000) (hc : ∀ l ∈ c, l.fit) : AFun Try.prog W 26 [.lst (c.map Lt.cv), .i i] (.val (.b (gstI c i))) := by
  refine afun_of (rs := [.b (gstI c i)]) Try.func26 Try.ntmps26 rfl rfl rfl rfl ?_
  intro w U hW
  refine aS (aR ?_)
  (refine nx (a_box (gN rfl) rfl rfl rfl rfl rfl) rfl ?_)
  (refine nx (a_box (gN rfl) rfl rfl rfl rfl rfl) rfl ?_)
  (refine nx (aA (gN rfl) rfl rfl rfl rfl rfl) rfl ?_)
  show AWp _ _ _ _ _ _ _
  by_cases hi : i < 0
  · have g : decide (i < 0) = true := decide_eq_true hi
    have e : gstI c i = false := by unfold gstI; rw [if_neg (by omega)]
    rw [e]
    refine aS (aS (aR ?_))
    (refine nx (aL (gN rfl) rfl rfl rfl rfl rfl rfl rfl rfl rfl rfl rfl rfl) rfl ?_)
    (refine nx (a_lss (gN rfl) rfl rfl rfl rfl rfl rfl) rfl ?_)
    (refine nx (aM (gN rfl) rfl rfl rfl rfl rfl) rfl ?_)
    (refine ⟨_, _, _, a_off (go_off rfl rfl rfl rfl (by first | rfl | assumption | (simp; done) | (simp [*]; done))) rfl rfl rfl, rfl, ?_⟩)
    (refine ⟨_, _, _, a_off (go_off rfl rfl rfl rfl (by first | rfl | assumption | (simp; done) | (simp [*]; done))) rfl rfl rfl, rfl, ?_⟩)
    (refine ⟨_, _, _, a_off (go_off rfl rfl rfl rfl (by first | rfl | assumption | (simp; done) | (simp [*]; done))) rfl rfl rfl, rfl, ?_⟩)
    (refine ⟨_, _, _, a_off (go_off rfl rfl rfl rfl (by first | rfl | assumption | (simp; done) | (simp [*]; done))) rfl rfl rfl, rfl, ?_⟩)
    (refine ⟨_, _, _, aPt (gN rfl) rfl rfl rfl rfl rfl ?hb rfl, rfl, ?_⟩; case hb => (first | rfl | assumption | (simp; done)))
    show AWp _ _ _ _ _ _ _
    refine aC rfl (fun _ => ?_) (fun h => by cases h)
    refine aS (aR ?_)
    (refine nx (aA (gN rfl) rfl rfl rfl rfl rfl) rfl ?_)
    show AWp _ _ _ _ _ _ _
    exact aT (And.intro (.inr rfl) rfl)
  · have g : decide (i < 0) = false := decide_eq_false hi
    refine aS (aS (aR ?_))
    (refine nx (aL (gN rfl) rfl rfl rfl rfl rfl rfl rfl rfl rfl rfl rfl rfl) rfl ?_)
    (refine nx (a_lss (gN rfl) rfl rfl rfl rfl rfl rfl) rfl ?_)
    (refine nx (aM (gN rfl) rfl rfl rfl rfl rfl) rfl ?_)
    (refine nx (aL (gd_on rfl rfl rfl rfl (by first | rfl | assumption | (simp; done))) rfl rfl rfl rfl rfl rfl rfl rfl rfl rfl rfl rfl) rfl ?_)
    (refine nx (aL (gd_on rfl rfl rfl rfl (by first | rfl | assumption | (simp; done))) rfl rfl rfl rfl rfl rfl rfl rfl rfl rfl rfl rfl) rfl ?_)
    (refine nx (a_len (gd_on rfl rfl rfl rfl (by first | rfl | assumption | (simp; done))) rfl rfl rfl rfl rfl rfl rfl) rfl ?_)
    (refine nx (a_geq (gd_on rfl rfl rfl rfl (by first | rfl | assumption | (simp; done))) rfl rfl rfl rfl rfl rfl) rfl ?_)
    (refine ⟨_, _, _, aPf (gN rfl) rfl rfl rfl rfl rfl ?hb rfl, rfl, ?_⟩; case hb => (first | rfl | assumption | (simp; done)))
    show AWp _ _ _ _ _ _ _
    refine aC rfl (fun h => ?_) (fun h => ?_)
    · have h : decide (i ≥ ((c.map Lt.cv).length : Int)) = true := h
      have h := of_decide_eq_true h
      rw [List.length_map] at h
      have e : gstI c i = false := by unfold gstI; rw [if_pos (by omega), List.getElem?_eq_none (by omega)]
      rw [e]
      refine aS (aR ?_)
      (refine nx (aA (gN rfl) rfl rfl rfl rfl rfl) rfl ?_)
      show AWp _ _ _ _ _ _ _
      exact aT (And.intro (.inr rfl) rfl)
    · have h : decide (i ≥ ((c.map Lt.cv).length : Int)) = false := h
      have h := of_decide_eq_false h
      rw [List.length_map] at h
      obtain ⟨k, rfl⟩ : ∃ k : Nat, i = (k : Int) := ⟨i.toNat, by omega⟩
      have hkl : k < c.length := by omega
      obtain ⟨x, hx⟩ : ∃ x, c[k]? = some x := ⟨c[k], List.getElem?_eq_getElem hkl⟩
      have hxf := hc x (List.mem_of_getElem? hx)
      have e : gstI c (k : Int) = !(c.any fun l => mulB (tmsL l) (tmsL x)) := by unfold gstI; rw [if_pos (by omega), Int.toNat_natCast, hx]; rfl
      rw [e]
      refine aK ?_
      show AWp _ _ _ _ _ _ _
      refine AWp.wk ((wk_freeze 2 rfl rfl rfl (s' := [(3, .bp 3 0 []), (100003, .bx (.i (k : Int)))]) ⟨rfl, rfl, trivial⟩ rfl rfl rfl).trans (wk_freeze 3 rfl rfl rfl (s' := [(2, .val (.ptr (.lst (c.map Lt.cv))))]) ⟨rfl, trivial⟩ rfl rfl rfl)) ?_
      refine aS (aR ?_)
      (refine nx (a_load_ptr (gN rfl) rfl rfl rfl rfl rfl rfl rfl rfl rfl) rfl ?_)
      (refine nx (a_mkfunc (gN rfl) rfl rfl rfl rfl rfl rfl) rfl ?_)
      (refine nx (a_call (gN rfl) rfl rfl rfl rfl rfl (conL_abs w (fun l => mulB (tmsL l) (tmsL x)) (.fn 44 0 [.ptr (.lst (c.map Lt.cv)), .ptr (.i (k : Int))]) c (by omega) (fun w l hl => .inl ⟨_, _, _, rfl, oGstF_abs w c k x l hx hxf (hc l hl)⟩))) rfl ?_)
      (refine nx (a_not (gN rfl) rfl rfl rfl rfl rfl) rfl ?_)
      (refine nx (aA (gN rfl) rfl rfl rfl rfl rfl) rfl ?_)
      show AWp _ _ _ _ _ _ _
      exact aT (And.intro (.inr rfl) rfl)
noncomputable def gsK (c : List Lt) (k : Nat) : List Int := ((List.range k).filter fun i : Nat => gstI c (i : Int)).map fun i : Nat => (i : Int)
theorem gsK_len (c : List Lt) (k : Nat) : (gsK c k).length ≤ k := by
  unfold gsK
  rw [List.length_map]
  exact Nat.le_trans (List.length_filter_le _ _) (by rw [List.length_range]; exact Nat.le_refl _)
theorem gsK_succ (c : List Lt) (k : Nat) : gsK c (k + 1) = gsK c k ++ (if gstI c (k : Int) = true then [(k : Int)] else []) := by
  unfold gsK
  rw [List.range_succ, List.filter_append, List.map_append]
  congr 1
  by_cases h : gstI c (k : Int) = true
  · rw [if_pos h, List.filter_cons_of_pos (by exact h)]; rfl
  · rw [if_neg h, List.filter_cons_of_neg (by exact h)]; rfl
noncomputable def lokL (c : List Lt) : List Int := if (hvK c c.length).1 ≥ 0 then [(hvK c c.length).1] else gsK c c.length
-- 
theorem oLook_abs (W : World) (c : List Lt) (hn : c.length ≤ 100000) (hc : ∀ l ∈ c, l.fit) : AFun Try.prog W 25 [.lst (c.map Lt.cv)] (.val (.lst ((lokL c).map CV.i))) := by
  refine afun_of (rs := [.lst ((lokL c).map CV.i)]) Try.func25 Try.ntmps25 rfl rfl rfl rfl ?_
  intro w U hW
  obtain ⟨hvv, hhv⟩ : ∃ z, z = (hvK c c.length).1 := ⟨_, rfl⟩
  have hlk : lokL c = if hvv ≥ 0 then [hvv] else gsK c c.length := by unfold lokL; rw [hhv]
  have hH := oHv_abs w c hn hc
  rw [← hhv] at hH
  refine aS (aR ?_)
  (refine nx (aA (gN rfl) rfl rfl rfl rfl rfl) rfl ?_)
  show AWp _ _ _ _ _ _ _
  refine aS (aS (aR ?_))
  (refine nx (aM (gN rfl) rfl rfl rfl rfl rfl) rfl ?_)
  (refine nx (a_call (gN rfl) rfl rfl rfl rfl rfl (hH)) rfl ?_)
  (refine nx (aA (gN rfl) rfl rfl rfl rfl rfl) rfl ?_)
  show AWp _ _ _ _ _ _ _
  refine aS (aR ?_)
  (refine nx (aM (gN rfl) rfl rfl rfl rfl rfl) rfl ?_)
  (refine nx (a_geq (gN rfl) rfl rfl rfl rfl rfl rfl) rfl ?_)
  show AWp _ _ _ _ _ _ _
  refine aC rfl (fun h => ?_) (fun h => ?_)
  · have h : decide (hvv ≥ 0) = true := h
    rw [hlk, if_pos (of_decide_eq_true h)]
    refine aS (aR ?_)
    (refine nx (aM (gN rfl) rfl rfl rfl rfl rfl) rfl ?_)
    (refine nx (a_bslice (gN rfl) rfl rfl rfl rfl rfl rfl rfl rfl rfl rfl rfl rfl rfl) rfl ?_)
    (refine nx (aA (gN rfl) rfl rfl rfl rfl rfl) rfl ?_)
    show AWp _ _ _ _ _ _ _
    exact aT (And.intro (.inr rfl) rfl)
  · have h : decide (hvv ≥ 0) = false := h
    rw [hlk, if_neg (of_decide_eq_false h)]
    refine aK ?_
    show AWp _ _ _ _ _ _ _
    refine aS (aR ?_)
    (refine nx (aA (gN rfl) rfl rfl rfl rfl rfl) rfl ?_)
    show AWp _ _ _ _ _ _ _
    refine aS (aS (aR ?_))
    (refine nx (aM (gN rfl) rfl rfl rfl rfl rfl) rfl ?_)
    (refine nx (a_len (gN rfl) rfl rfl rfl rfl rfl rfl rfl) rfl ?_)
    (refine nx (aM (gN rfl) rfl rfl rfl rfl rfl) rfl ?_)
    show AWp _ _ _ _ _ _ _
    let st : Nat → AS := fun k => [(0, .val (.lst (c.map Lt.cv))), (4, .own (.lst ((gsK c k).map CV.i)) 200023), (200023, .tok 3 1), (13, .val (.i (c.map Lt.cv).length)), (14, .val (.i k))]
    refine aB (awp_count c.length st ((wk_nil 4 200023 3 1 rfl rfl rfl rfl rfl rfl rfl).trans (wk_sub ⟨rfl, rfl, rfl, rfl, rfl, trivial⟩)) ?_)
    intro k hk
    refine aS (aR ?_)
    (refine nx (a_lss (gN rfl) rfl rfl rfl rfl rfl rfl) rfl ?_)
    show AWp _ _ _ _ _ _ _
    refine aS (aC rfl (fun hlt => ?_) (fun hlt => ?_))
    · have hkl : k < c.length := by simpa using hlt
      have hl3 : ((gsK c k).map CV.i).length ≤ k := by rw [List.length_map]; exact gsK_len c k
      have hl4 := gsK_len c k
      have hsz3 : ∀ x ∈ (gsK c k).map CV.i, x.size = 1 := ints_size _
      refine aK ?_
      show AWp _ _ _ _ _ _ _
      refine aS (aB (aS (aR ?_)))
      (refine nx (aM (gN rfl) rfl rfl rfl rfl rfl) rfl ?_)
      (refine nx (aA (gN rfl) rfl rfl rfl rfl rfl) rfl ?_)
      show AWp _ _ _ _ _ _ _
      refine aS (aR ?_)
      (refine nx (aM (gN rfl) rfl rfl rfl rfl rfl) rfl ?_)
      (refine nx (aM (gN rfl) rfl rfl rfl rfl rfl) rfl ?_)
      (refine nx (a_call (gN rfl) rfl rfl rfl rfl rfl (oGst_abs w c k hn hc)) rfl ?_)
      show AWp _ _ _ _ _ _ _
      refine aC rfl (fun hg => ?_) (fun hg => ?_)
      · have hg : gstI c (k : Int) = true := hg
        refine aR ?_
        (refine nx (aM (gN rfl) rfl rfl rfl rfl rfl) rfl ?_)
        (refine nx (aM (gN rfl) rfl rfl rfl rfl rfl) rfl ?_)
        (refine nx (a_bslice (gN rfl) rfl rfl rfl rfl rfl rfl rfl rfl rfl rfl rfl rfl rfl) rfl ?_)
        (refine nx (a_app (gN rfl) rfl rfl rfl rfl rfl rfl rfl rfl rfl rfl rfl rfl rfl rfl rfl (by first | assumption | exact sZ rfl | exact Tm.size_all _ | exact Bd.size_all _ | exact ints_size _ | exact bys_size _ | exact Lt.size_all _) (by first | assumption | exact sZ rfl | exact Tm.size_all _ | exact Bd.size_all _ | exact ints_size _ | exact bys_size _ | exact Lt.size_all _) (by first | omega | (simp only [List.length_map, List.length_append, List.length_cons, List.length_nil] <;> omega) | (simp <;> omega))) rfl ?_)
        (refine nx (aA (gN rfl) rfl rfl rfl rfl rfl) rfl ?_)
        show AWp _ _ _ _ _ _ _
        refine AWp.wk ((wk_sub (s' := [(0, .val (.lst (c.map Lt.cv))), (4, .own (.lst ((gsK c k).map CV.i ++ [CV.i (k : Int)])) 300023), (300023, .tok 3 1), (13, .val (.i (c.map Lt.cv).length)), (14, .val (.i k))]) ⟨rfl, rfl, rfl, rfl, rfl, trivial⟩).trans (wk_ren 300023 200023 rfl rfl rfl rfl)) ?_
        refine aR ?_
        (refine nx (a_add (gN rfl) rfl rfl rfl rfl rfl rfl (by first | omega | (simp only [List.length_map, List.length_append, List.length_cons, List.length_nil] <;> omega) | (simp <;> omega))) rfl ?_)
        (refine nx (aM (gN rfl) rfl rfl rfl rfl rfl) rfl ?_)
        refine ⟨hkl, wk_sub ⟨rfl, ?_, rfl, rfl, rfl, trivial⟩⟩
        show some (AV.own (.lst _) _) = some (AV.own (.lst _) _)
        rw [gsK_succ, if_pos hg, List.map_append]
        rfl
      · have hg : gstI c (k : Int) = false := hg
        refine aK ?_
        show AWp _ _ _ _ _ _ _
        refine aR ?_
        (refine nx (a_add (gN rfl) rfl rfl rfl rfl rfl rfl (by first | omega | (simp only [List.length_map, List.length_append, List.length_cons, List.length_nil] <;> omega) | (simp <;> omega))) rfl ?_)
        (refine nx (aM (gN rfl) rfl rfl rfl rfl rfl) rfl ?_)
        refine ⟨hkl, wk_sub ⟨rfl, ?_, rfl, rfl, rfl, trivial⟩⟩
        show some (AV.own (.lst _) _) = some (AV.own (.lst _) _)
        rw [gsK_succ, if_neg (by rw [hg]; decide), List.append_nil]
    · have hkl : k = c.length := by
        have : ¬ k < c.length := by simpa using hlt
        omega
      subst hkl
      refine aE ?_
      show AWp _ _ _ _ _ _ _
      refine aS (aR ?_)
      (refine nx (aM (gN rfl) rfl rfl rfl rfl rfl) rfl ?_)
      (refine nx (aA (gN rfl) rfl rfl rfl rfl rfl) rfl ?_)
      show AWp _ _ _ _ _ _ _
      exact aT (And.intro (.inr rfl) rfl)
noncomputable def prC (p : Tm × Tm) : CV := .row [p.1.cw, p.2.cw]
noncomputable def orK (l : Lt) (k : Nat) : List (Tm × Tm) := (([(l.a, l.b), (l.b, l.a)].take k).filter fun p => decide (kb p.1 p.2 = 1 ∨ kb p.1 p.2 = 2)).map fun p => (p.1.strip, p.2.strip)


end Go.Proofs.Ytglbohajmccehaa
namespace Go.Proofs.Ytglbohajmccehaa
open Go.RowKit
set_option linter.unusedVariables false
set_option linter.unusedSimpArgs false
section
variable {P : Program} {w0 : World} {U0 : UX} {nt : Nat} {ops : Array Oper} {o : Oper} {S : Nat → Option AV} {gs : List Nat} {d : Nat}
variable (hg : Gd w0 U0 nt ops o gs S) (hd : o.dst = some d) (hn : Nat.blt d nt = true) (h5 : Nat.blt d 100000 = true)
include hg hd hn h5
end
end Go.Proofs.Ytglbohajmccehaa
namespace Go.Proofs.Ytglbohajmccehaa
set_option linter.unusedVariables false
def ub : Nat → Nat → List Int
  | 0, n => [(n : Int)]
  | k + 1, n => if n < 128 then [(n : Int)] else ((128 + n % 128 : Nat) : Int) :: ub k (n / 128)

def ubytes (n : Nat) : List Int := ub 9 n

def lenz (n : Nat) : Nat := if n = 0 then 0 else (ubytes n).length

def zz (n : Int) : Nat := if 0 ≤ n then (2 * n).toNat else (-2 * n - 1).toNat
end Go.Proofs.Ytglbohajmccehaa
namespace Go.Proofs.Ytglbohajmccehaa
open Go.RowKit
set_option linter.unusedVariables false






def lastAt : List Int → Option Nat
  | [] => none
  | b :: r => if b < 128 then some 0 else (lastAt r).map (· + 1)

def lastInt (l : List Int) : Int := match lastAt l with | none => -1 | some i => (i : Int)

def val : List Int → Nat
  | [] => 0
  | b :: r => (b % 128).toNat + 128 * val r

def okNum (l : List Int) : Bool := decide (l.length ≤ 10 ∧ (l.length = 10 → l.getD (l.length - 1) 0 ≤ 1) ∧ (l.getD (l.length - 1) 0 ≠ 0 ∨ l.length = 1))

def unzz (n : Nat) : Int := if n % 2 = 0 then ((n / 2 : Nat) : Int) else -((n / 2 : Nat) : Int) - 1


def rdU (l : List Int) : Nat × Nat × Nat :=
  match lastAt l with
  | none => (0, 0, 10)
  | some i => if okNum (l.take (i + 1)) then (val (l.take (i + 1)), i + 1, 0) else (0, 0, 7)
def canon : List Int → Prop
  | [] => False
  | b :: r => match r with
    | [] => 0 < b ∧ b < 128
    | _ :: _ => 128 ≤ b ∧ b ≤ 255 ∧ canon r
end Go.Proofs.Ytglbohajmccehaa
namespace Go.Proofs.Ytglbohajmccehaa
set_option linter.unusedVariables false
set_option linter.unusedSimpArgs false
def wT : Tm → List Int
  | ⟨f, l⟩ => ubytes (zz f) ++ (if f < 0 then [] else ubytes l.length ++ (l.map wT).flatten)
def wL (l : Lt) : List Int := (if l.neg then 1 else 0) :: (wT l.a ++ wT l.b)
def wC (c : List Lt) : List Int := ubytes c.length ++ c.flatMap wL

def rN (most : Nat) (l : List Int) : Except Nat (Nat × Nat) := match rdU l with
  | (v, c, 0) => if v > most then .error 7 else .ok (v, c)
  | (_, _, e + 1) => .error (e + 1)
def rH (l : List Int) : Except Nat (Int × Nat) := match rdU l with
  | (v, c, 0) => if -2147483648 ≤ unzz v ∧ unzz v ≤ 2147483647 then .ok (unzz v, c) else .error 7
  | (_, _, e + 1) => .error (e + 1)
def rMany {α : Type} (g : List Int → Except Nat (α × Nat)) : Nat → List Int → Except Nat (List α × Nat)
  | 0, _ => .ok ([], 0)
  | n + 1, l => match g l with
    | .error e => .error e
    | .ok (x, c) => match rMany g n (l.drop c) with
      | .error e => .error e
      | .ok (xs, c') => .ok (x :: xs, c + c')
def rList {α : Type} (g : List Int → Except Nat (α × Nat)) (l : List Int) : Except Nat (List α × Nat) := match rN 4096 l with
  | .error e => .error e
  | .ok (n, c) => match rMany g n (l.drop c) with
    | .error e => .error e
    | .ok (xs, c') => .ok (xs, c + c')
def rT : Nat → List Int → Except Nat (Tm × Nat)
  | 0, _ => .error 7
  | d + 1, l => match rH l with
    | .error e => .error e
    | .ok (f, c) => if f < 0 then .ok (⟨f, []⟩, c) else match rList (rT d) (l.drop c) with
      | .error e => .error e
      | .ok (xs, c') => .ok (⟨f, xs⟩, c + c')
def rL (l : List Int) : Except Nat (Lt × Nat) := match rN 1 l with
  | .error e => .error e
  | .ok (n, c) => match rT 257 (l.drop c) with
    | .error e => .error e
    | .ok (a, c1) => match rT 257 (l.drop (c + c1)) with
      | .error e => .error e
      | .ok (b, c2) => .ok (⟨decide (n = 1), a, b⟩, c + c1 + c2)
def rC (l : List Int) : Except Nat (List Lt × Nat) := rList rL l

def wfB (l : List Int) : Prop := ∀ z ∈ l, 0 ≤ z ∧ z ≤ 255
def Rt {α : Type} (w : α → List Int) (l : List Int) (r : Except Nat (α × Nat)) : Prop := ∀ x c, r = .ok (x, c) → c ≤ l.length ∧ w x = l.take c
def Er {α : Type} (r : Except Nat (α × Nat)) : Prop := ∀ e, r = .error e → e = 7 ∨ e = 10
structure Thru {α : Type} (g : List Int → Except Nat (α × Nat)) (w : List Int) (x : α) : Prop where
  back : ∀ r, g (w ++ r) = .ok (x, w.length)
  cut : ∀ j, j < w.length → g (w.take j) = .error 10
end Go.Proofs.Ytglbohajmccehaa
namespace Go.Proofs.Ytglbohajmccehaa
open Go.RowKit
set_option linter.unusedVariables false
set_option linter.unusedSimpArgs false
set_option maxRecDepth 100000
abbrev by8 (z : Int) : CV := .sc (.int .u8 z)
def gU (zs : List Int) (p : Int) : Int × Int × Int :=
  if p < 0 ∨ p > zs.length then (0, 0, 1) else match rdU (zs.drop p.toNat) with
    | (v, c, 0) => (v, p + c, 0)
    | (_, _, e + 1) => (0, 0, ((e + 1 : Nat) : Int))
def gI (zs : List Int) (p : Int) : Int × Int × Int :=
  if p < 0 ∨ p > zs.length then (0, 0, 1) else match rdU (zs.drop p.toNat) with
    | (v, c, 0) => (unzz v, p + c, 0)
    | (_, _, e + 1) => (0, 0, ((e + 1 : Nat) : Int))
noncomputable abbrev rB (zs : List Int) : AS := [(300001, .mrow 5 1 (zs.map by8))]
def zT : Tm := ⟨0, []⟩
def zL : Lt := ⟨false, zT, zT⟩
def okP {α : Type} (q : Nat) : Except Nat (α × Nat) → Int
  | .ok (_, c) => ((q + c : Nat) : Int)
  | .error _ => 0
def okE {α : Type} : Except Nat (α × Nat) → Int
  | .ok _ => 0
  | .error e => (e : Int)
def okN : Except Nat (Nat × Nat) → Int
  | .ok (v, _) => (v : Int)
  | .error _ => 0
noncomputable def okT : Except Nat (Tm × Nat) → CV
  | .ok (x, _) => x.cw
  | .error _ => .row [.i 0, .lst []]
noncomputable def okG : Except Nat (Lt × Nat) → CV
  | .ok (x, _) => x.cw
  | .error _ => .row [.b false, .row [.i 0, .lst []], .row [.i 0, .lst []]]
noncomputable def okLT : Except Nat (List Tm × Nat) → List CV
  | .ok (x, _) => x.map Tm.cv
  | .error _ => []
noncomputable def okLG : Except Nat (List Lt × Nat) → List CV
  | .ok (x, _) => x.map Lt.cv
  | .error _ => []
noncomputable abbrev tupN (q : Nat) (r : Except Nat (Nat × Nat)) : List CV := [.sc (.int .u64 (okN r)), .i (okP q r), by8 (okE r)]
noncomputable abbrev tupT (q : Nat) (r : Except Nat (Tm × Nat)) : List CV := [okT r, .i (okP q r), by8 (okE r)]
noncomputable abbrev tupG (q : Nat) (r : Except Nat (Lt × Nat)) : List CV := [okG r, .i (okP q r), by8 (okE r)]
noncomputable abbrev tupLT (q : Nat) (r : Except Nat (List Tm × Nat)) : List CV := [.lst (okLT r), .i (okP q r), by8 (okE r)]
noncomputable abbrev tupLG (q : Nat) (r : Except Nat (List Lt × Nat)) : List CV := [.lst (okLG r), .i (okP q r), by8 (okE r)]
def rHd (l : List Int) : Except Nat (Tm × Nat) := match rH l with
  | .error e => .error e
  | .ok (f, c) => .ok (⟨f, []⟩, c)
def cmb {α : Type} (xs : List α) (q0 q : Nat) : Except Nat (List α × Nat) → Except Nat (List α × Nat)
  | .error e => .error e
  | .ok (ys, c) => .ok (xs ++ ys, q - q0 + c)
def gC (zs : List Int) (p : Int) : Except Nat (List Lt × Nat) := if p < 0 ∨ p > zs.length then .error 1 else rC (zs.drop p.toNat)
def exC : Lt := ⟨false, ⟨3, [⟨-1, []⟩]⟩, ⟨1, []⟩⟩
def finL (size : Int) (l : Lt) : Bool := decide (0 ≤ smallT l.a size 8) && decide (0 ≤ smallT l.b size 8)
def fineC (c : List Lt) (most : Nat) (size : Int) : Bool := decide (c.length ≤ most) && c.all (finL size)
def sameL (x y : Lt) : Bool := (x.neg == y.neg) && (sameT x.a y.a && sameT x.b y.b)
def sameC : List Lt → List Lt → Bool
  | [], [] => true
  | x :: l, y :: m => sameL x y && sameC l m
  | _, _ => false
def htK (h : Option Nat) (k : Nat) : Bool := match h with | some i => decide (i < k) | none => false
def usK (h : Option Nat) (u : List Bool) (k : Nat) : List Bool := match h with | some i => if i < k then u.set i true else u | none => u
noncomputable def undB14 (X : List Tm) (y : Tm) : Bool := X.any fun x => decide (kb x y = 1)
theorem wtL_pos (l : Lt) : 0 < wtL l := by have := l.a.size_pos; unfold wtL; omega
noncomputable def orD (l : Lt) : List (Tm × Tm) := (if kb l.a l.b > 0 then [(l.a, l.b)] else []) ++ (if kb l.a l.b = -1 ∨ kb l.a l.b = 2 then [(l.b, l.a)] else [])
noncomputable def prL (p : Tm × Tm) : CV := .lst [p.1.cw, p.2.cw]
def al1 : Lt := ⟨false, ⟨1, []⟩, ⟨0, []⟩⟩
def al2 : Lt := ⟨true, ⟨2, []⟩, ⟨0, []⟩⟩
theorem al_fit : ∀ l ∈ [al1, al2], l.fit := by
  have key : ∀ f : Int, 0 ≤ f → f ≤ 9 → (⟨f, []⟩ : Tm).fit := fun f h1 h2 => by
    refine ⟨?_, ?_, ?_⟩
    · exact leaf_rng (by omega) (by omega)
    · exact leaf_ok f
    · rw [leaf_size]; omega
  intro l hl
  rcases List.mem_cons.1 hl with rfl | hl
  · exact ⟨key 1 (by decide) (by decide), key 0 (by decide) (by decide)⟩
  · rw [List.mem_singleton] at hl
    subst hl
    exact ⟨key 2 (by decide) (by decide), key 0 (by decide) (by decide)⟩
theorem al_look : lokL [al1, al2] = [1] := by
  have h : hvK [al1, al2] 2 = (1, wtL al2) := by
    have h1 : hvK [al1, al2] 1 = (-1, 0) := by
      unfold hvK
      show (if al1.neg = true ∧ _ then _ else hvK [al1, al2] 0) = _
      rw [if_neg (by intro h; cases h.1)]; rfl
    unfold hvK
    show (if al2.neg = true ∧ (hvK [al1, al2] 1).2 < wtL al2 then _ else _) = _
    rw [h1, if_pos ⟨rfl, wtL_pos al2⟩]; rfl
  unfold lokL
  show (if (hvK [al1, al2] 2).1 ≥ 0 then _ else _) = _
  rw [h, if_pos (by decide)]
  show [(hvK [al1, al2] 2).1] = [1]
  rw [h]
theorem al_none : lokL [] = [] := rfl
-- 
theorem alive14_abs (W : World) : AFun Try.prog W 8 [] (.val (.b true)) := by
  have h1 := oLook_abs W [al1, al2] (by simp) al_fit
  have h2 := oLook_abs W [] (by simp) (fun l hl => by cases hl)
  rw [al_look] at h1
  rw [al_none] at h2
  refine afun_of (rs := [.b true]) Try.func8 Try.ntmps8 rfl rfl rfl rfl ?_
  intro w U hW
  have h1 := h1.up hW
  have h2 := h2.up hW
  refine aS (aR ?_)
  (refine nx (aA (gN rfl) rfl rfl rfl rfl rfl) rfl ?_)
  show AWp _ _ _ _ _ _ _
  refine aS (aR ?_)
  (refine nx (a_build (gN rfl) rfl rfl rfl rfl rfl rfl rfl rfl rfl rfl rfl) rfl ?_)
  (refine nx (a_build (gN rfl) rfl rfl rfl rfl rfl rfl rfl rfl rfl rfl rfl) rfl ?_)
  (refine nx (a_build (gN rfl) rfl rfl rfl rfl rfl rfl rfl rfl rfl rfl rfl) rfl ?_)
  (refine nx (a_build (gN rfl) rfl rfl rfl rfl rfl rfl rfl rfl rfl rfl rfl) rfl ?_)
  (refine nx (a_bslice (gN rfl) rfl rfl rfl rfl rfl rfl rfl rfl rfl rfl rfl rfl rfl) rfl ?_)
  (refine nx (a_call (gN rfl) rfl rfl rfl rfl rfl (h1)) rfl ?_)
  (refine nx (aA (gN rfl) rfl rfl rfl rfl rfl) rfl ?_)
  show AWp _ _ _ _ _ _ _
  refine aS (aR ?_)
  (refine nx (aM (gN rfl) rfl rfl rfl rfl rfl) rfl ?_)
  (refine nx (a_len (gN rfl) rfl rfl rfl rfl rfl rfl rfl) rfl ?_)
  (refine nx (a_eql (gN rfl) rfl rfl rfl rfl rfl rfl) rfl ?_)
  (refine nx (aM (gN rfl) rfl rfl rfl rfl rfl) rfl ?_)
  (refine nx (aM (gd_on rfl rfl rfl rfl (by first | rfl | assumption | (simp; done))) rfl rfl rfl rfl rfl) rfl ?_)
  (refine nx (a_index (j := 0) (gd_on rfl rfl rfl rfl (by first | rfl | assumption | (simp; done))) rfl rfl rfl rfl rfl rfl rfl rfl rfl (rfl) rfl (ints_size [1])) rfl ?_)
  (refine nx (a_load_ad (gd_on rfl rfl rfl rfl (by first | rfl | assumption | (simp; done))) rfl rfl rfl rfl rfl rfl rfl rfl rfl) rfl ?_)
  (refine nx (a_eql (gd_on rfl rfl rfl rfl (by first | rfl | assumption | (simp; done))) rfl rfl rfl rfl rfl rfl) rfl ?_)
  (refine ⟨_, _, _, aPt (gN rfl) rfl rfl rfl rfl rfl ?hb rfl, rfl, ?_⟩; case hb => (first | rfl | assumption | (simp; done)))
  (refine nx (aM (gN rfl) rfl rfl rfl rfl rfl) rfl ?_)
  (refine nx (a_call (gd_on rfl rfl rfl rfl (by first | rfl | assumption | (simp; done))) rfl rfl rfl rfl rfl (h2)) rfl ?_)
  (refine nx (a_len (gd_on rfl rfl rfl rfl (by first | rfl | assumption | (simp; done))) rfl rfl rfl rfl rfl rfl rfl) rfl ?_)
  (refine nx (a_eql (gd_on rfl rfl rfl rfl (by first | rfl | assumption | (simp; done))) rfl rfl rfl rfl rfl rfl) rfl ?_)
  (refine ⟨_, _, _, aPt (gN rfl) rfl rfl rfl rfl rfl ?hb rfl, rfl, ?_⟩; case hb => (first | rfl | assumption | (simp; done)))
  (refine nx (aA (gN rfl) rfl rfl rfl rfl rfl) rfl ?_)
  show AWp _ _ _ _ _ _ _
  exact aT (And.intro (.inr rfl) rfl)
end Go.Proofs.Ytglbohajmccehaa
namespace Go.Proofs.Ytglbohajmccehaa
open Go.RowKit
set_option linter.unusedVariables false
set_option linter.unusedSimpArgs false
theorem small_fit {t : Tm} {size : Int} (h0 : 0 ≤ size) (h1 : size ≤ 60) (ht : 0 ≤ smallT t size 8) : t.fit ∧ (t.size : Int) ≤ size := by
  have hsm := small_sm t _ _ ht
  have hwt : (t.wt : Int) ≤ size := by have := (small_bounds t size 8 h0).2.2 ht; omega
  have := t.size_wt
  exact ⟨⟨Tm.sm_rng hsm, Tm.wt_ok (t := t) (by omega), by omega⟩, by omega⟩
theorem mulB_not {a b : List Tm} : mulB a b = false ↔ ¬ mulP a b := by rw [← mulB_iff, Bool.not_eq_true]
end Go.Proofs.Ytglbohajmccehaa
