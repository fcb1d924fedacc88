/-
  UnFns5 UnFns6 UnFns7 UnFns8 AbRoom AbBox AbIter AbRange
-/
import Derived.Test.YtiammidklcjelabMg5
import Derived.Test.YtiammidklcjelabMg3
import Derived.Test.YtiammidklcjelabMg2
namespace Go.Proofs.Ytiammidklcjelab
open Go.RowKit
set_option linter.unusedVariables false
set_option linter.unusedSimpArgs false
set_option maxRecDepth 100000
theorem sumTo_ge {f : Nat → Nat} : ∀ {N m : Nat}, m < N → f m ≤ sumTo f N
  | 0, m, h => by omega
  | N + 1, m, h => by
    rw [sumTo]
    rcases Nat.lt_or_ge m N with h1 | h1
    · have := sumTo_ge (f := f) h1; omega
    · have : m = N := by omega
      rw [this]; omega
theorem sumTo_le {f : Nat → Nat} {B : Nat} : ∀ {N : Nat}, (∀ m, m < N → f m ≤ B) → sumTo f N ≤ N * B
  | 0, _ => by simp [sumTo]
  | N + 1, h => by
    rw [sumTo]
    have h1 := sumTo_le (N := N) fun m hm => h m (by omega)
    have h2 := h N (by omega)
    rw [Nat.add_mul]
    omega
theorem mea_le {c : Cl} {H : Nat → Nat} (hk : kidOk c.ns) (hp : pw c.ns ≤ 1000) : mea c H ≤ c.ps.length + 2000000 := by
  have hN : c.ns.length ≤ 1000 := Nat.le_trans (len_pw _) hp
  have h1 : sumTo (hw c.ns H) c.ns.length ≤ c.ns.length * 2000 := sumTo_le fun m hm => by
    unfold hw wgt
    split
    · split
      · rename_i h0
        rcases Nat.eq_zero_or_pos (nT c.ns m).l.length with h2 | h2
        · omega
        · have := hk m hm h0 ((nT c.ns m).l.length - 1) (by omega)
          omega
      · rename_i h0
        have h3 := sumTo_ge (f := gw c.ns 0) hm
        rw [gw0, if_pos (by omega)] at h3
        have : sumTo (gw c.ns 0) c.ns.length = pw c.ns := rfl
        omega
    · omega
  have h2 : c.ns.length * 2000 ≤ 1000 * 2000 := Nat.mul_le_mul_right _ hN
  unfold mea
  omega
theorem trmOk.joinTo {c : Cl} (h : trmOk c.ns) {a b : Nat} (ha : a < c.ns.length) (hb : b < c.ns.length) : trmOk (joinTo c a b).1.ns := by
  unfold Go.Proofs.Ytiammidklcjelab.joinTo
  split
  · exact h.same (setUpLen _ _ _) fun m => tk_up.1 m
  · split
    · exact h
    · refine trmOk.same ?_ (setUpLen _ _ _) fun m => tk_up.1 m
      exact (h.parts ha).parts (Nat.lt_of_lt_of_le hb parts_len)
theorem trmOk.join {k : Nat} {c : Cl} {x y : Nat} {q : Cl × Bool} (h : trmOk c.ns) (hu : upOk c.ns) (hx : x < c.ns.length) (hy : y < c.ns.length) (hj : joinC k c x y = some q) : trmOk q.1.ns := by
  unfold joinC at hj
  cases h1 : headC k c.ns x with
  | none => rw [h1] at hj; cases hj
  | some q1 =>
  rw [h1] at hj
  simp only at hj
  cases h2 : headC k q1.1 y with
  | none => rw [h2] at hj; cases hj
  | some q2 =>
  rw [h2] at hj
  simp only at hj
  obtain ⟨u1, l1, x1, t1, k1⟩ := headC_keep k h1 hu hx
  obtain ⟨u2, l2, y2, t2, k2⟩ := headC_keep k h2 u1 (by rw [l1]; exact hy)
  have hT : trmOk q2.1 := h.same (by omega) fun m => by rw [t2, t1]
  split at hj
  · cases hj; exact hT
  · split at hj
    · cases hj
      exact trmOk.joinTo (c := ⟨q2.1, c.vr, c.ps⟩) hT (by show q2.2 < q2.1.length; omega) (by show q1.2 < q2.1.length; omega)
    · cases hj
      exact trmOk.joinTo (c := ⟨q2.1, c.vr, c.ps⟩) hT (by show q1.2 < q2.1.length; omega) (by show q2.2 < q2.1.length; omega)
structure Inv (c : Cl) (E : List (Tm × Tm)) (M : Nat) : Prop where
  cls : ∃ H r, ClsC c H r E ∧ mea c H ≤ M
  trm : trmOk c.ns
  big : pw c.ns ≤ 1000
theorem Inv.fit {c : Cl} {E} {M : Nat} (h : Inv c E M) : Fit c := by
  obtain ⟨H, r, h1, _⟩ := h.cls
  exact ⟨h1.ups, fun n hn hk i hi => ((h1.kid n hn hk).2 i hi).1, h.trm, by have := h.big; omega⟩
theorem Inv.ps {c : Cl} {E} {M : Nat} (h : Inv c E M) : c.ps.length ≤ M := by
  obtain ⟨H, r, _, h2⟩ := h.cls
  unfold mea at h2
  omega
theorem joinC_one {k k' : Nat} {c : Cl} {x y : Nat} {q q'} (h : joinC k c x y = some q) (h' : joinC k' c x y = some q') : q = q' := by
  have h1 := joinC_le (Nat.le_max_left k k') h
  have h2 := joinC_le (Nat.le_max_right k k') h'
  rw [h1] at h2
  exact Option.some.inj h2
theorem Inv.join {c : Cl} {E} {M k : Nat} {p : Nat × Nat} {q : Cl × Bool} (h : Inv c E M) (hp : c.ps.getLast? = some p) (hj : joinC k ⟨c.ns, c.vr, c.ps.dropLast⟩ p.1 p.2 = some q) : (p.1 < c.ns.length ∧ p.2 < c.ns.length) ∧ (q.2 = true → Inv q.1 E M) := by
  obtain ⟨H, r, h1, h2⟩ := h.cls
  have hps : c.ps = c.ps.dropLast ++ [p] := by
    have hne : c.ps ≠ [] := fun e => by rw [e] at hp; cases hp
    have h8 : c.ps.getLast hne = p := by
      have := List.getLast?_eq_some_getLast hne
      rw [hp] at this
      exact (Option.some.inj this).symm
    rw [← h8, List.dropLast_concat_getLast hne]
  have hc : c = ⟨c.ns, c.vr, c.ps.dropLast ++ [(p.1, p.2)]⟩ := by
    conv => lhs; rw [show c = ⟨c.ns, c.vr, c.ps⟩ from rfl, hps]
  have hpm : p ∈ c.ps := by rw [hps]; simp
  have hlt := h1.pss p hpm
  refine ⟨hlt, fun hq => ?_⟩
  rw [hc] at h1
  obtain ⟨k', q', e1, l1, l2⟩ := joinC_spec h1
  have := joinC_one hj e1
  subst this
  obtain ⟨H', r', g1, g2⟩ := l2 hq
  rw [← hc] at g2
  refine ⟨⟨H', r', g1, by omega⟩, ?_, ?_⟩
  · exact trmOk.join (c := ⟨c.ns, c.vr, c.ps.dropLast⟩) h.trm h.fit.up hlt.1 hlt.2 hj
  · rw [pw_join hj]; exact h.big
noncomputable abbrev prw (p : Tm × Tm) : CV := .row [p.1.cw, p.2.cw]
noncomputable def prv (p : Tm × Tm) : CV := prw p
theorem pr_at {l : List (Tm × Tm)} {i : Nat} {n : Tm × Tm} (h : l[i]? = some n) : (l.map prv)[i]? = some (prw n) := by rw [List.getElem?_map, h]; rfl
theorem pr_size (l : List (Tm × Tm)) : ∀ c ∈ l.map prv, c.size = 4 := by
  intro c hc
  obtain ⟨b, _, rfl⟩ := List.mem_map.1 hc
  rfl
theorem pw_open (c : Cl) (p : Tm × Tm) : pw (openC c p).ns = pw c.ns + p.1.size + p.2.size := by
  show pw (addC (addC c p.1) p.2).ns = _
  rw [pw_add, pw_add]
theorem Inv.opn {c : Cl} {E} {M : Nat} (h : Inv c E M) (hp : c.ps = []) {p : Tm × Tm} (h1 : p.1.rng ∧ p.1.ok) (h2 : p.2.rng ∧ p.2.ok) (hb : pw c.ns + p.1.size + p.2.size ≤ 1000) : Inv (openC c p) (E ++ [p]) 2000001 := by
  obtain ⟨H, r, g1, _⟩ := h.cls
  obtain ⟨H', r', g2⟩ := g1.openC p
  have hk : kidOk (openC c p).ns := fun n hn hk i hi => ((g2.kid n hn hk).2 i hi).1
  have hpw : pw (openC c p).ns ≤ 1000 := by rw [pw_open]; exact hb
  have hm := mea_le (H := H') hk hpw
  have hpl : (openC c p).ps.length = 1 := by
    show (c.ps ++ _).length = 1
    rw [hp]; rfl
  exact ⟨⟨H', r', g2, by omega⟩, (h.trm.add h1.1 h1.2).add h2.1 h2.2, hpw⟩
def plcS (l : List (Tm × Tm)) : Nat := (l.map fun p => p.1.size + p.2.size).sum
-- 
set_option maxHeartbeats 8000000 in
theorem uJoinAll_abs (k : Nat) (l : List (Tm × Tm)) (q : Cl × Bool) (hq : joinAllC k l ⟨[], [], []⟩ = some q) (hl : ∀ p ∈ l, (p.1.rng ∧ p.1.ok) ∧ (p.2.rng ∧ p.2.ok)) (hb : plcS l ≤ 1000) : AFunO Try.prog 41 (cstM ⟨[], [], []⟩) [.bp 350001 0 [], .val (.lst (l.map prv))] (.val (.b q.2)) (cstM q.1) := by
  have hsz := pr_size l
  have hll : l.length ≤ 1000 := by
    refine Nat.le_trans ?_ hb
    unfold plcS
    clear hq hl hb hsz
    induction l with
    | nil => simp
    | cons p l ih => simp only [List.map_cons, List.sum_cons, List.length_cons]; have := p.1.size_pos; omega
  refine afunO_of Try.func41 Try.ntmps41 rfl rfl rfl rfl rfl rfl ?_
  intro w U hU
  refine aS (aR ?_)
  (refine nx (aA (gN rfl) rfl rfl rfl rfl rfl) rfl ?_)
  show AWp _ _ _ _ _ _ _
  refine aS (aS (aR ?_))
  (refine nx (aM (gN rfl) rfl rfl rfl rfl rfl) rfl ?_)
  (refine nx (a_len (gN rfl) rfl rfl rfl rfl rfl rfl rfl) rfl ?_)
  (refine nx (aM (gN rfl) rfl rfl rfl rfl rfl) rfl ?_)
  show AWp _ _ _ _ _ _ _
  refine aB (awp_loop (fun m s => ∃ i c E, m = l.length - i ∧ i ≤ l.length ∧ joinAllC k (l.drop i) c = some q ∧ c.ps = [] ∧ Inv c E 2000001 ∧ pw c.ns + plcS (l.drop i) ≤ 1000 ∧ s = (0, AV.bp 350001 0 []) :: (7, .val (.lst (l.map prv))) :: (8, .val (.i (l.map prv).length)) :: (9, .val (.i (i : Int))) :: cstM c) (n := l.length) (s' := (0, AV.bp 350001 0 []) :: (7, .val (.lst (l.map prv))) :: (8, .val (.i (l.map prv).length)) :: (9, .val (.i ((0 : Nat) : Int))) :: cstM ⟨[], [], []⟩) (wk_sub ⟨rfl, rfl, rfl, rfl, rfl, rfl, rfl, rfl, rfl, rfl, rfl, trivial⟩) ⟨0, ⟨[], [], []⟩, [], by omega, by omega, hq, rfl, ⟨⟨id, id, Cls.nil, by show 0 + sumTo _ 0 ≤ _; simp [sumTo]⟩, (fun x hx => by cases hx), by show sumTo _ 0 ≤ _; simp [sumTo]⟩, by show sumTo _ 0 + _ ≤ _; simpa [sumTo] using hb, rfl⟩ ?_)
  rintro m s ⟨i, c, E, hm, hi, hq, hps, hI, hbi, rfl⟩
  refine aS (aR ?_)
  (refine nx (a_lss (gN rfl) rfl rfl rfl rfl rfl rfl) rfl ?_)
  show AWp _ _ _ _ _ _ _
  refine aS (aC rfl (fun hlt => ?_) (fun hlt => ?_))
  case refine_2 =>
    have hil : i = l.length := by
      have : ¬ i < l.length := by simpa using hlt
      omega
    rw [hil, List.drop_length] at hq
    cases hq
    refine aE ?_
    show AWp _ _ _ _ _ _ _
    refine aS (aR ?_)
    (refine nx (aA (gN rfl) rfl rfl rfl rfl rfl) rfl ?_)
    show AWp _ _ _ _ _ _ _
    exact aT ⟨.inr rfl, _, Wk.refl _, rfl, rfl, rfl, rfl, rfl, rfl, rfl, rfl, trivial⟩
  have hil : i < l.length := by simpa using hlt
  obtain ⟨p, hp⟩ : ∃ p, l[i]? = some p := ⟨l[i], List.getElem?_eq_getElem hil⟩
  have hp' := pr_at hp
  have hpm := List.mem_of_getElem? hp
  have hdr : l.drop i = p :: l.drop (i + 1) := by
    obtain ⟨hk, e⟩ := List.getElem?_eq_some_iff.1 hp
    rw [List.drop_eq_getElem_cons hk, e]
  rw [hdr, joinAllC] at hq
  rw [hdr] at hbi
  have hbi : pw c.ns + (p.1.size + p.2.size + plcS (l.drop (i + 1))) ≤ 1000 := hbi
  obtain ⟨⟨r1, o1⟩, r2, o2⟩ := hl p hpm
  have hl0 : c.ns.length ≤ 1000 := Nat.le_trans (len_pw _) (by omega)
  have a1 := uAdd_abs c p.1 r1 (by omega)
  have a2 := uAdd_abs (addC c p.1) p.2 r2 (by rw [addC_len]; omega)
  have a3 := uPush_abs (addC (addC c p.1) p.2) c.ns.length (c.ns.length + 1) (by show c.ps.length ≤ _; rw [hps]; decide)
  rw [addC_len] at a2
  have hop : (⟨(addC (addC c p.1) p.2).ns, (addC (addC c p.1) p.2).vr, (addC (addC c p.1) p.2).ps ++ [(c.ns.length, c.ns.length + 1)]⟩ : Cl) = openC c p := rfl
  rw [hop] at a3
  have hIo := hI.opn hps ⟨r1, o1⟩ ⟨r2, o2⟩ (by omega)
  refine aK ?_
  show AWp _ _ _ _ _ _ _
  refine aS (aB (aS (aR ?_)))
  (refine nx (a_index (j := i) (gN rfl) rfl rfl rfl rfl rfl rfl rfl rfl rfl (hp') rfl (hsz)) rfl ?_)
  (refine nx (a_load_ad (gN rfl) rfl rfl rfl rfl rfl rfl rfl rfl rfl) rfl ?_)
  (refine nx (a_allocA [2, 2] (gN rfl) rfl rfl rfl rfl rfl rfl rfl) (by kernel_rfl) ?_)
  (refine nx (aSt (gN rfl) rfl rfl rfl rfl rfl rfl rfl rfl rfl rfl) rfl ?_)
  show AWp _ _ _ _ _ _ _
  refine aS (aD (by kernel_rfl) (by kernel_rfl) ?_)
  (refine nx (aM (gN rfl) rfl rfl rfl rfl rfl) rfl ?_)
  (refine nx (aM (gN rfl) rfl rfl rfl rfl rfl) rfl ?_)
  (refine nx (a_idxA 0 (gN rfl) rfl rfl rfl rfl rfl rfl rfl rfl rfl rfl) rfl ?_)
  (refine nx (aLb (gN rfl) rfl rfl rfl rfl rfl rfl rfl rfl rfl rfl rfl rfl) rfl ?_)
  (refine nx (a_callO (gN rfl) rfl rfl rfl rfl rfl (a1) (by repeat (first | exact trivial | refine ⟨rfl, ?_⟩)) (by first | rfl | kernel_rfl) (by first | rfl | kernel_rfl) (by first | rfl | kernel_rfl) (by first | rfl | kernel_rfl) (hnb_of (by first | rfl | kernel_rfl))) rfl ?_)
  (refine nx (aM (gN rfl) rfl rfl rfl rfl rfl) rfl ?_)
  (refine nx (a_idxA 1 (gN rfl) rfl rfl rfl rfl rfl rfl rfl rfl rfl rfl) rfl ?_)
  (refine nx (aLb (gN rfl) rfl rfl rfl rfl rfl rfl rfl rfl rfl rfl rfl rfl) rfl ?_)
  (refine nx (a_callO (gN rfl) rfl rfl rfl rfl rfl (a2) (by repeat (first | exact trivial | refine ⟨rfl, ?_⟩)) (by first | rfl | kernel_rfl) (by first | rfl | kernel_rfl) (by first | rfl | kernel_rfl) (by first | rfl | kernel_rfl) (hnb_of (by first | rfl | kernel_rfl))) rfl ?_)
  (refine nx (a_callO (gN rfl) rfl rfl rfl rfl rfl (a3) (by repeat (first | exact trivial | refine ⟨rfl, ?_⟩)) (by first | rfl | kernel_rfl) (by first | rfl | kernel_rfl) (by first | rfl | kernel_rfl) (by first | rfl | kernel_rfl) (hnb_of (by first | rfl | kernel_rfl))) rfl ?_)
  refine ⟨by kernel_rfl, ?_⟩
  show AWp _ _ _ _ _ _ _
  cases hrun : runC k (openC c p) with
  | none => rw [hrun] at hq; cases hq
  | some qr =>
  rw [hrun] at hq
  simp only at hq
  refine aB (awp_loop (fun j s => ∃ d, runC j d = some qr ∧ Inv d (E ++ [p]) 2000001 ∧ pw d.ns = pw (openC c p).ns ∧ s = (0, AV.bp 350001 0 []) :: (7, .val (.lst (l.map prv))) :: (8, .val (.i (l.map prv).length)) :: (9, .val (.i (i : Int))) :: cstM d) (n := k) (s' := (0, AV.bp 350001 0 []) :: (7, .val (.lst (l.map prv))) :: (8, .val (.i (l.map prv).length)) :: (9, .val (.i (i : Int))) :: cstM (openC c p)) (wk_sub ⟨rfl, rfl, rfl, rfl, rfl, rfl, rfl, rfl, rfl, rfl, rfl, trivial⟩) ⟨openC c p, hrun, hIo, rfl, rfl⟩ ?_)
  rintro j s ⟨d, hd, hId, hpd, rfl⟩
  cases j with
  | zero => cases hd
  | succ j =>
  rw [runC] at hd
  have hdp := hId.ps
  refine aS (aS (aR ?_))
  (refine nx (aM (gN rfl) rfl rfl rfl rfl rfl) rfl ?_)
  (refine nx (aNc (gN rfl) rfl rfl rfl rfl rfl) rfl ?_)
  (refine nx (aF (gN rfl) rfl rfl rfl rfl rfl rfl rfl rfl rfl) rfl ?_)
  (refine nx (aLf (gN rfl) rfl rfl rfl rfl rfl rfl rfl rfl rfl rfl rfl rfl rfl) rfl ?_)
  (refine nx (a_lenM (gN rfl) rfl rfl rfl rfl rfl rfl rfl) rfl ?_)
  (refine nx (a_gtr (gN rfl) rfl rfl rfl rfl rfl rfl) rfl ?_)
  show AWp _ _ _ _ _ _ _
  cases hg : d.ps.getLast? with
  | none =>
    rw [hg] at hd
    simp only at hd
    cases hd
    have hdn : d.ps = [] := List.getLast?_eq_none_iff.1 hg
    refine aC rfl (fun hc => ?_) (fun hc => ?_)
    · exfalso
      rw [hdn] at hc
      simp at hc
    rw [if_pos rfl] at hq
    refine aE ?_
    show AWp _ _ _ _ _ _ _
    refine aR ?_
    (refine nx (a_add (gN rfl) rfl rfl rfl rfl rfl rfl (by first | omega | (simp only [List.length_map, List.length_append, List.length_cons, List.length_nil] <;> omega) | (simp <;> omega))) rfl ?_)
    (refine nx (aM (gN rfl) rfl rfl rfl rfl rfl) rfl ?_)
    have hpw : pw d.ns = pw c.ns + p.1.size + p.2.size := by rw [hpd, pw_open]
    refine ⟨l.length - (i + 1), (0, AV.bp 350001 0 []) :: (7, .val (.lst (l.map prv))) :: (8, .val (.i (l.map prv).length)) :: (9, .val (.i ((i + 1 : Nat) : Int))) :: cstM d, by omega, ⟨i + 1, d, E ++ [p], rfl, by omega, hq, hdn, hId, by omega, rfl⟩, wk_sub ⟨rfl, rfl, rfl, rfl, rfl, rfl, rfl, rfl, rfl, rfl, rfl, trivial⟩⟩
  | some pp =>
    rw [hg] at hd
    simp only at hd
    cases hj : joinC j ⟨d.ns, d.vr, d.ps.dropLast⟩ pp.1 pp.2 with
    | none => rw [hj] at hd; cases hd
    | some qj =>
    rw [hj] at hd
    simp only at hd
    obtain ⟨⟨x1, x2⟩, hInv⟩ := hId.join hg hj
    have hpos : 0 < d.ps.length := by
      cases h : d.ps with
      | nil => rw [h] at hg; cases hg
      | cons a l => simp
    have b1 := uPop_abs d pp hg (by omega)
    have hFd := hId.fit
    have b2 := uJoin_abs j ⟨d.ns, d.vr, d.ps.dropLast⟩ pp.1 pp.2 qj hj x1 x2 ⟨hFd.up, hFd.kid, hFd.trm, hFd.big⟩ (by show d.ps.dropLast.length ≤ _; rw [List.length_dropLast]; omega)
    refine aC rfl (fun hc => ?_) (fun hc => ?_)
    case refine_2 =>
      have : ¬ ((d.ps.length : Int) > 0) := by simpa using hc
      omega
    refine aK ?_
    show AWp _ _ _ _ _ _ _
    refine AWp.wk (wk_sub (s' := (0, AV.bp 350001 0 []) :: (7, .val (.lst (l.map prv))) :: (8, .val (.i (l.map prv).length)) :: (9, .val (.i (i : Int))) :: cstM d) ⟨rfl, rfl, rfl, rfl, rfl, rfl, rfl, rfl, rfl, rfl, rfl, trivial⟩) ?_
    refine aB (aS (aR ?_))
    (refine nx (aM (gN rfl) rfl rfl rfl rfl rfl) rfl ?_)
    (refine nx (aM (gN rfl) rfl rfl rfl rfl rfl) rfl ?_)
    (refine nx (a_callO (gN rfl) rfl rfl rfl rfl rfl (b1) (by repeat (first | exact trivial | refine ⟨rfl, ?_⟩)) (by first | rfl | kernel_rfl) (by first | rfl | kernel_rfl) (by first | rfl | kernel_rfl) (by first | rfl | kernel_rfl) (hnb_of (by first | rfl | kernel_rfl))) rfl ?_)
    (refine nx (aX (gN rfl) rfl rfl rfl rfl rfl rfl) rfl ?_)
    (refine nx (aX (gN rfl) rfl rfl rfl rfl rfl rfl) rfl ?_)
    (refine nx (a_callO (gN rfl) rfl rfl rfl rfl rfl (b2) (by repeat (first | exact trivial | refine ⟨rfl, ?_⟩)) (by first | rfl | kernel_rfl) (by first | rfl | kernel_rfl) (by first | rfl | kernel_rfl) (by first | rfl | kernel_rfl) (hnb_of (by first | rfl | kernel_rfl))) rfl ?_)
    (refine nx (a_not (gN rfl) rfl rfl rfl rfl rfl) rfl ?_)
    show AWp _ _ _ _ _ _ _
    cases hqj : qj.2 with
    | false =>
      rw [hqj, if_neg (by simp)] at hd
      have hd := Option.some.inj hd
      subst hd
      rw [hqj, if_neg (by simp)] at hq
      have hq := Option.some.inj hq
      subst hq
      refine aC rfl (fun hc => ?_) (fun hc => by cases hc)
      refine aS (aR ?_)
      (refine nx (aA (gN rfl) rfl rfl rfl rfl rfl) rfl ?_)
      show AWp _ _ _ _ _ _ _
      rw [hqj]
      exact aT ⟨.inr rfl, _, Wk.refl _, rfl, rfl, rfl, rfl, rfl, rfl, rfl, rfl, trivial⟩
    | true =>
      rw [hqj, if_pos rfl] at hd
      refine aC rfl (fun hc => by cases hc) (fun hc => aK ?_)
      exact ⟨j, _, by omega, ⟨qj.1, hd, hInv hqj, by rw [pw_join hj]; exact hpd, rfl⟩, wk_sub ⟨rfl, rfl, rfl, rfl, rfl, rfl, rfl, rfl, rfl, rfl, rfl, trivial⟩⟩
structure FitU (c : Cl) : Prop where
  up : upOk c.ns
  kid : kidOk c.ns
  trm : trmOk c.ns
  big : pw c.ns ≤ 1000
  vrb : ∀ v m, lookV c.vr v = some m → m < c.ns.length
theorem Inv.fitU {c : Cl} {E} {M : Nat} (h : Inv c E M) : FitU c := by
  have hf := h.fit
  obtain ⟨H, r, h1, _⟩ := h.cls
  exact ⟨hf.up, hf.kid, hf.trm, h.big, fun v m hm => (h1.vrt v m hm).1⟩
def upB (c : Cl) : Prop := upOk c.ns ∧ ∀ v m, lookV c.vr v = some m → m < c.ns.length
theorem upB.add {c : Cl} (h : upB c) (t : Tm) : upB (addC c t) := by
  have hl : (addC c t).ns.length = c.ns.length + 1 := addC_len c t
  have hu : addU c t ≤ c.ns.length := by
    unfold addU
    split
    · cases e : lookV c.vr (-1 - t.f) with
      | none => exact Nat.le_refl _
      | some m => exact Nat.le_of_lt (h.2 _ m e)
    · exact Nat.le_refl _
  refine ⟨fun m hm => ?_, fun v m hm => ?_⟩
  · rw [hl] at hm ⊢
    unfold nU addC
    rcases Nat.lt_or_ge m c.ns.length with h1 | h1
    · simp only
      rw [List.getD_eq_getElem?_getD, List.getElem?_append_left h1, ← List.getD_eq_getElem?_getD]
      have := h.1 m h1
      unfold nU at this
      omega
    · have : m = c.ns.length := by omega
      subst this
      simp only
      rw [getD_end]
      show addU c t < _
      omega
  · rw [hl]
    have hm : lookV (addV c t) v = some m := hm
    unfold addV at hm
    split at hm
    · split at hm
      · have := h.2 v m hm; omega
      · rw [lookV_snoc] at hm
        cases e : lookV c.vr v with
        | some m' => rw [e] at hm; cases hm; have := h.2 v _ e; omega
        | none =>
          rw [e, Option.none_or] at hm
          split at hm
          · cases hm; omega
          · cases hm
    · have := h.2 v m hm; omega
theorem upB.all (l : List Tm) : ∀ {c : Cl}, upB c → upB (addAll c l) := by
  induction l with
  | nil => exact fun h => h
  | cons t l ih => exact fun h => ih (h.add t)
theorem upB.parts {c : Cl} (h : upB c) (n : Nat) : upB (pC c n).1 := by
  unfold pC
  split
  · exact h
  · split
    · refine upB.all _ ⟨fun m hm => ?_, fun v m hm => ?_⟩
      · have hl : (c.setFi n c.ns.length).ns.length = c.ns.length := by unfold Cl.setFi setFi; simp
        rw [hl] at hm ⊢
        have hU : nU (c.setFi n c.ns.length).ns m = nU c.ns m := by
          unfold Cl.setFi setFi nU
          simp only
          rw [List.getD_eq_getElem?_getD, List.getElem?_set]
          split
          · rename_i e
            subst e
            split
            · rfl
            · rename_i h9; exact absurd hm h9
          · rw [← List.getD_eq_getElem?_getD]
        rw [hU]; exact h.1 m hm
      · have := h.2 v m hm
        show m < (setFi c.ns n c.ns.length).length
        unfold setFi
        rw [List.length_set]; exact this
    · exact h
theorem FitU.parts {c : Cl} (h : FitU c) {n : Nat} (hn : n < c.ns.length) : FitU (pC c n).1 := by
  obtain ⟨h1, h2⟩ := upB.parts ⟨h.up, h.vrb⟩ n
  exact ⟨h1, h.kid.parts hn, h.trm.parts hn, by rw [pw_parts]; exact h.big, h2⟩
theorem kidOk.same {ns ns' : List Nd} (h : kidOk ns) (hl : ns'.length = ns.length) (ht : ∀ m, nT ns' m = nT ns m) (hk : ∀ m, nK ns' m = nK ns m) : kidOk ns' := fun n hn hkn i hi => by
  rw [hl] at hn ⊢
  rw [hk] at hkn ⊢
  rw [ht] at hi
  exact h n hn hkn i hi
theorem FitU.head {k : Nat} {ns : List Nd} {vr ps} {n : Nat} {r} (h : FitU ⟨ns, vr, ps⟩) (hn : n < ns.length) (hd : headC k ns n = some r) : FitU ⟨r.1, vr, ps⟩ ∧ r.1.length = ns.length ∧ r.2 < ns.length := by
  obtain ⟨a1, a2, a3, a4, a5⟩ := headC_keep k hd h.up hn
  exact ⟨⟨a1, h.kid.same a2 a4 a5, h.trm.same a2 a4, by show pw r.1 ≤ 1000; rw [pw_same a2 a4 a5]; exact h.big, fun v m hm => by show m < r.1.length; rw [a2]; exact h.vrb v m hm⟩, a2, a3⟩
theorem nU_us {ns : List Nd} {n : Nat} {x : Int} (m : Nat) : nU (setUs ns n x) m = nU ns m := by
  unfold nU setUs
  rw [List.getD_eq_getElem?_getD, List.getElem?_set]
  split
  · rename_i e
    subst e
    split
    · rfl
    · rename_i h9
      rw [List.getD_eq_getElem?_getD, List.getElem?_eq_none (by omega)]
  · rw [← List.getD_eq_getElem?_getD]
theorem setUsLen (ns : List Nd) (n : Nat) (x : Int) : (setUs ns n x).length = ns.length := by unfold setUs; simp
theorem FitU.us {ns : List Nd} {vr ps} (h : FitU ⟨ns, vr, ps⟩) (n : Nat) (x : Int) : FitU ⟨setUs ns n x, vr, ps⟩ := by
  have hl := setUsLen ns n x
  exact ⟨fun m hm => by show nU (setUs ns n x) m < (setUs ns n x).length; rw [nU_us, hl]; exact h.up m (by have : m < (setUs ns n x).length := hm; rw [hl] at this; exact this), h.kid.same hl tk_us.1 tk_us.2, h.trm.same hl tk_us.1, by show pw (setUs ns n x) ≤ 1000; rw [pw_us]; exact h.big, fun v m hm => by show m < (setUs ns n x).length; rw [hl]; exact h.vrb v m hm⟩
def usB (ns : List Nd) (B : Int) : Prop := ∀ m, -B ≤ nS ns m ∧ nS ns m ≤ B
theorem nS_up9 {ns : List Nd} {n k : Nat} (m : Nat) : nS (setUp ns n k) m = nS ns m := by
  unfold nS setUp
  rw [List.getD_eq_getElem?_getD, List.getElem?_set]
  split
  · rename_i e
    subst e
    split
    · rfl
    · rename_i h9
      rw [List.getD_eq_getElem?_getD, List.getElem?_eq_none (by omega)]
  · rw [← List.getD_eq_getElem?_getD]
theorem headC_us : ∀ (k : Nat) {ns : List Nd} {n : Nat} {r}, headC k ns n = some r → ∀ m, nS r.1 m = nS ns m
  | 0, _, _, _, e => by cases e
  | k + 1, ns, n, r, e => fun m => by
    rw [headC] at e
    split at e
    · cases e; rfl
    · rw [headC_us k e m, nS_up9]
theorem usB.head {k : Nat} {ns : List Nd} {n : Nat} {r} {B : Int} (h : usB ns B) (hd : headC k ns n = some r) : usB r.1 B := fun m => by rw [headC_us k hd]; exact h m
theorem usB.set {ns : List Nd} {B : Int} (h : usB ns B) {n : Nat} {x : Int} (hx : -(B + 1) ≤ x ∧ x ≤ B + 1) : usB (setUs ns n x) (B + 1) := fun m => by
  have h1 := h m
  unfold nS setUs at *
  rw [List.getD_eq_getElem?_getD, List.getElem?_set]
  split
  · split
    · exact hx
    · show _ ≤ (0 : Int) ∧ (0 : Int) ≤ _; omega
  · rw [← List.getD_eq_getElem?_getD]; omega
theorem usB.mono {ns : List Nd} {B B' : Int} (h : usB ns B) (hb : B ≤ B') : usB ns B' := fun m => by have := h m; omega
theorem nS_addC {c : Cl} {t : Tm} {B : Int} (h : usB c.ns B) (hB : 0 ≤ B) : usB (addC c t).ns B := fun m => by
  unfold nS addC
  simp only
  rw [List.getD_eq_getElem?_getD]
  rcases Nat.lt_trichotomy m c.ns.length with h1 | h1 | h1
  · rw [List.getElem?_append_left h1, ← List.getD_eq_getElem?_getD]; exact h m
  · subst h1; rw [List.getElem?_append_right (Nat.le_refl _), Nat.sub_self]; show _ ≤ (0 : Int) ∧ (0 : Int) ≤ _; omega
  · rw [List.getElem?_eq_none (by simp; omega)]; show _ ≤ (0 : Int) ∧ (0 : Int) ≤ _; omega
theorem usB.parts {c : Cl} {B : Int} (h : usB c.ns B) (hB : 0 ≤ B) (n : Nat) : usB (pC c n).1.ns B := by
  have hall : ∀ (l : List Tm) (c : Cl), usB c.ns B → usB (addAll c l).ns B := by
    intro l
    induction l with
    | nil => exact fun c h => h
    | cons t l ih => exact fun c h => ih _ (nS_addC h hB)
  unfold pC
  split
  · exact h
  · split
    · refine hall _ _ fun m => ?_
      have : nS (c.setFi n c.ns.length).ns m = nS c.ns m := by
        unfold Cl.setFi setFi nS
        simp only
        rw [List.getD_eq_getElem?_getD, List.getElem?_set]
        split
        · rename_i e
          subst e
          split
          · rfl
          · rename_i h9
            rw [List.getD_eq_getElem?_getD, List.getElem?_eq_none (by omega)]
        · rw [← List.getD_eq_getElem?_getD]
      rw [this]; exact h m
    · exact h
theorem setUs_at {ns : List Nd} {n : Nat} {k : Int} {x : Nd} (h : ns[n]? = some x) : (setUs ns n k)[n]? = some { x with us := k } := by
  unfold setUs
  have hl : n < ns.length := (List.getElem?_eq_some_iff.1 h).1
  rw [List.getElem?_set_self hl, getD_at h]
noncomputable abbrev intsV (l : List Nat) : CV := .lst (l.map fun n : Nat => CV.i (n : Int))
theorem nats_size (l : List Nat) : ∀ c ∈ l.map (fun n : Nat => CV.i (n : Int)), c.size = 1 := fun c hc => by
  obtain ⟨n, _, rfl⟩ := List.mem_map.1 hc
  rfl
-- 
set_option maxHeartbeats 8000000 in
theorem uCount_abs (k j0 : Nat) (c0 : Cl) (q : Cl × List Nat) (hq : countC k j0 0 c0 [] = some q) (hF0 : FitU c0) (hu0 : usB c0.ns 0) : AFunO Try.prog 70 (cstM c0) [.bp 350001 0 []] (.val (intsV q.2)) (cstM q.1) := by
  refine afunO_of Try.func70 Try.ntmps70 rfl rfl rfl rfl rfl rfl ?_
  intro w U hU
  refine aS (aR ?_)
  (refine nx (aA (gN rfl) rfl rfl rfl rfl rfl) rfl ?_)
  show AWp _ _ _ _ _ _ _
  refine aS (aR ?_)
  (refine nx (aA (gN rfl) rfl rfl rfl rfl rfl) rfl ?_)
  show AWp _ _ _ _ _ _ _
  refine aS (aS (aR ?_))
  (refine nx (aA (gN rfl) rfl rfl rfl rfl rfl) rfl ?_)
  show AWp _ _ _ _ _ _ _
  refine aB (awp_loop (fun j s => ∃ n c hs, countC k j n c hs = some q ∧ FitU c ∧ usB c.ns ((n : Int) * 1000) ∧ n ≤ 1000 ∧ hs.length ≤ n ∧ s = (0, AV.bp 350001 0 []) :: (3, .own (intsV hs) 200025) :: (200025, .tok 3 1) :: (4, .val (.i (n : Int))) :: cstM c) (n := j0) (s' := (0, AV.bp 350001 0 []) :: (3, .own (intsV []) 200025) :: (200025, .tok 3 1) :: (4, .val (.i ((0 : Nat) : Int))) :: cstM c0) ((wk_nil 3 200025 3 1 rfl rfl rfl rfl rfl rfl (by kernel_rfl)).trans (wk_sub ⟨rfl, rfl, rfl, rfl, rfl, rfl, rfl, rfl, rfl, rfl, rfl, trivial⟩)) ⟨0, c0, [], hq, hF0, by simpa using hu0, by omega, Nat.le_refl _, rfl⟩ ?_)
  rintro j s ⟨n, c, hs, hq, hF, hu, hn, hsl, rfl⟩
  cases j with
  | zero => cases hq
  | succ j =>
  rw [countC] at hq
  have hl : c.ns.length ≤ 1000 := Nat.le_trans (len_pw _) hF.big
  refine aS (aS (aR ?_))
  (refine nx (aM (gN rfl) rfl rfl rfl rfl rfl) rfl ?_)
  (refine nx (aM (gN rfl) rfl rfl rfl rfl rfl) rfl ?_)
  (refine nx (aNc (gN rfl) rfl rfl rfl rfl rfl) rfl ?_)
  (refine nx (aF (gN rfl) rfl rfl rfl rfl rfl rfl rfl rfl rfl) rfl ?_)
  (refine nx (aLf (gN rfl) rfl rfl rfl rfl rfl rfl rfl rfl rfl rfl rfl rfl rfl) rfl ?_)
  (refine nx (a_lenM (gN rfl) rfl rfl rfl rfl rfl rfl rfl) rfl ?_)
  (refine nx (a_lss (gN rfl) rfl rfl rfl rfl rfl rfl) rfl ?_)
  show AWp _ _ _ _ _ _ _
  by_cases hlt : n < c.ns.length
  case neg =>
    rw [if_neg hlt] at hq
    have hq := Option.some.inj hq
    subst hq
    refine aC rfl (fun hc => ?_) (fun hc => ?_)
    · exfalso
      have : (n : Int) < c.ns.length := by simpa using hc
      omega
    refine aE ?_
    show AWp _ _ _ _ _ _ _
    refine aS (aR ?_)
    (refine nx (aM (gN rfl) rfl rfl rfl rfl rfl) rfl ?_)
    (refine nx (aA (gN rfl) rfl rfl rfl rfl rfl) rfl ?_)
    show AWp _ _ _ _ _ _ _
    exact aT ⟨.inr rfl, _, Wk.refl _, rfl, rfl, rfl, rfl, rfl, rfl, rfl, rfl, trivial⟩
  rw [if_pos hlt] at hq
  refine aC rfl (fun hc => ?_) (fun hc => ?_)
  case refine_2 =>
    have : ¬ (n : Int) < c.ns.length := by simpa using hc
    omega
  refine aK ?_
  show AWp _ _ _ _ _ _ _
  cases hd : headC k c.ns n with
  | none => rw [hd] at hq; cases hq
  | some r =>
  rw [hd] at hq
  simp only at hq
  have hdc := uHead_abs c.vr c.ps k c.ns n r hd hF.up hlt (by omega)
  obtain ⟨hF1, hl1, hr1⟩ := FitU.head (vr := c.vr) (ps := c.ps) hF hlt hd
  have hu1 := hu.head hd
  refine AWp.wk ((wk_sub (s' := (0, AV.bp 350001 0 []) :: (3, .own (intsV hs) 200025) :: (200025, .tok 3 1) :: (4, .val (.i (n : Int))) :: cstM c) ⟨rfl, rfl, rfl, rfl, rfl, rfl, rfl, rfl, rfl, rfl, rfl, trivial⟩).trans (wk_renF 300001 400001 rfl rfl (hUno hU (by kernel_rfl)) (by kernel_rfl) (by kernel_rfl) (by kernel_rfl))) ?_
  refine aS (aB (aS (aS (aR ?_))))
  (refine nx (aM (gN rfl) rfl rfl rfl rfl rfl) rfl ?_)
  (refine nx (aM (gN rfl) rfl rfl rfl rfl rfl) rfl ?_)
  (refine nx (a_callO (gN rfl) rfl rfl rfl rfl rfl (hdc) (by repeat (first | exact trivial | refine ⟨rfl, ?_⟩)) (by first | rfl | kernel_rfl) (by first | rfl | kernel_rfl) (by first | rfl | kernel_rfl) (by first | rfl | kernel_rfl) (hnb_of (by first | rfl | kernel_rfl))) rfl ?_)
  (refine nx (aM (gN rfl) rfl rfl rfl rfl rfl) rfl ?_)
  (refine nx (a_neq (gN rfl) rfl rfl rfl rfl rfl rfl) rfl ?_)
  show AWp _ _ _ _ _ _ _
  obtain ⟨c1, hc1⟩ : ∃ c1 : Cl, c1 = ⟨r.1, c.vr, c.ps⟩ := ⟨_, rfl⟩
  rw [← hc1] at hq hF1 ⊢
  have hl1' : c1.ns.length = c.ns.length := by rw [hc1]; exact hl1
  have hu1 : usB c1.ns ((n : Int) * 1000) := by rw [hc1]; exact hu1
  by_cases he : r.2 = n
  case neg =>
    rw [if_pos he] at hq
    refine aC rfl (fun hc => ?_) (fun hc => ?_)
    case refine_2 =>
      have hc := of_decide_eq_false hc
      simp only [ne_eq, Decidable.not_not] at hc
      omega
    refine aE ?_
    show AWp _ _ _ _ _ _ _
    refine aR ?_
    (refine nx (aM (gN rfl) rfl rfl rfl rfl rfl) rfl ?_)
    (refine nx (a_add (gN rfl) rfl rfl rfl rfl rfl rfl (by first | omega | (simp only [List.length_map, List.length_append, List.length_cons, List.length_nil] <;> omega) | (simp <;> omega))) rfl ?_)
    (refine nx (aA (gN rfl) rfl rfl rfl rfl rfl) rfl ?_)
    refine ⟨j, (0, AV.bp 350001 0 []) :: (3, .own (intsV hs) 200025) :: (200025, .tok 3 1) :: (4, .val (.i ((n + 1 : Nat) : Int))) :: cstM c1, by omega, ⟨n + 1, c1, hs, hq, hF1, hu1.mono (by omega), by omega, by omega, rfl⟩, (wk_sub (s' := (0, AV.bp 350001 0 []) :: (3, .own (intsV hs) 200025) :: (200025, .tok 3 1) :: (4, .val (.i ((n + 1 : Nat) : Int))) :: cstF c1) ⟨rfl, rfl, rfl, rfl, rfl, rfl, rfl, rfl, rfl, rfl, rfl, trivial⟩).trans (wk_renF 400001 300001 rfl rfl (hUlow U (by decide)) (by kernel_rfl) (by kernel_rfl) (by kernel_rfl))⟩
  rw [if_neg (by simpa using he)] at hq
  refine aC rfl (fun hc => ?_) (fun hc => aK ?_)
  · exfalso
    rw [he] at hc
    simp at hc
  show AWp _ _ _ _ _ _ _
  have hn1 : n < c1.ns.length := by omega
  have hFp := hF1.parts hn1
  have hup := hu1.parts (by omega) n
  have hlp : (pC c1 n).1.ns.length ≤ 1000 := Nat.le_trans (len_pw _) hFp.big
  have hpc := uParts_abs c1 n hn1 hF1.trm (by omega) (hF1.kid.fi hn1 (by omega))
  obtain ⟨c2, hc2⟩ : ∃ c2, c2 = (pC c1 n).1 := ⟨_, rfl⟩
  obtain ⟨fr, hfr⟩ : ∃ x, x = (pC c1 n).2.1 := ⟨_, rfl⟩
  obtain ⟨to, hto⟩ : ∃ x, x = (pC c1 n).2.2 := ⟨_, rfl⟩
  have hft : fr ≤ to := by rw [hfr, hto]; exact parts_pos.1
  have htl : to ≤ c2.ns.length := by rw [hto, hc2]; exact snd_le hF1.kid hn1
  rw [← hc2] at hq hFp hup hlp hpc
  rw [← hfr, ← hto] at hq hpc
  refine AWp.wk ((wk_sub (s' := (0, AV.bp 350001 0 []) :: (3, .own (intsV hs) 200025) :: (200025, .tok 3 1) :: (4, .val (.i (n : Int))) :: cstF c1) ⟨rfl, rfl, rfl, rfl, rfl, rfl, rfl, rfl, rfl, rfl, rfl, trivial⟩).trans (wk_renF 400001 300001 rfl rfl (hUlow U (by decide)) (by kernel_rfl) (by kernel_rfl) (by kernel_rfl))) ?_
  have hss := nats_size hs
  refine aS (aR ?_)
  (refine nx (aM (gN rfl) rfl rfl rfl rfl rfl) rfl ?_)
  (refine nx (aM (gN rfl) rfl rfl rfl rfl rfl) rfl ?_)
  (refine nx (a_bslice (gN rfl) rfl rfl rfl rfl rfl rfl rfl rfl rfl rfl rfl rfl rfl) rfl ?_)
  (refine nx (a_app (gN rfl) rfl rfl rfl rfl rfl rfl rfl rfl rfl rfl rfl rfl rfl rfl rfl (by first | assumption | exact sZ rfl | exact Tm.size_all _ | exact Bd.size_all _ | exact ints_size _ | exact bys_size _ | exact Lt.size_all _) (by first | assumption | exact sZ rfl | exact Tm.size_all _ | exact Bd.size_all _ | exact ints_size _ | exact bys_size _ | exact Lt.size_all _) (by first | omega | (simp only [List.length_map, List.length_append, List.length_cons, List.length_nil] <;> omega) | (simp <;> omega))) (by kernel_rfl) ?_)
  (refine nx (aA (gN rfl) rfl rfl rfl rfl rfl) rfl ?_)
  show AWp _ _ _ _ _ _ _
  refine AWp.wk ((wk_sub (s' := (0, AV.bp 350001 0 []) :: (3, .own (intsV (hs ++ [n])) 300025) :: (300025, .tok 3 1) :: (4, .val (.i (n : Int))) :: cstM c1) ⟨rfl, ?_, rfl, rfl, rfl, rfl, rfl, rfl, rfl, rfl, rfl, trivial⟩).trans (wk_ren 300025 200025 rfl rfl (by kernel_rfl) (by kernel_rfl))) ?_
  · show _ = some (AV.own (.lst ((hs ++ [n]).map fun n : Nat => CV.i (n : Int))) 300025)
    rw [List.map_append]; rfl
  refine aS (aR ?_)
  (refine nx (aM (gN rfl) rfl rfl rfl rfl rfl) rfl ?_)
  (refine nx (aM (gN rfl) rfl rfl rfl rfl rfl) rfl ?_)
  (refine nx (a_callO (gN rfl) rfl rfl rfl rfl rfl (hpc) (by repeat (first | exact trivial | refine ⟨rfl, ?_⟩)) (by first | rfl | kernel_rfl) (by first | rfl | kernel_rfl) (by first | rfl | kernel_rfl) (by first | rfl | kernel_rfl) (hnb_of (by first | rfl | kernel_rfl))) rfl ?_)
  (refine nx (aM (gN rfl) rfl rfl rfl rfl rfl) rfl ?_)
  (refine nx (aX (gN rfl) rfl rfl rfl rfl rfl rfl) rfl ?_)
  (refine nx (aX (gN rfl) rfl rfl rfl rfl rfl rfl) rfl ?_)
  (refine nx (aA (gN rfl) rfl rfl rfl rfl rfl) rfl ?_)
  (refine nx (aA (gN rfl) rfl rfl rfl rfl rfl) rfl ?_)
  show AWp _ _ _ _ _ _ _
  refine aS (aR ?_)
  (refine nx (aM (gN rfl) rfl rfl rfl rfl rfl) rfl ?_)
  (refine nx (aA (gN rfl) rfl rfl rfl rfl rfl) rfl ?_)
  show AWp _ _ _ _ _ _ _
  cases hus : useC k (List.range' fr (to - fr)) c2.ns with
  | none => rw [hus] at hq; cases hq
  | some ns =>
  rw [hus] at hq
  simp only at hq
  refine aB (awp_loop (fun m s => ∃ i ns1, i + m = to - fr ∧ useC k (List.range' (fr + i) m) ns1 = some ns ∧ FitU ⟨ns1, c2.vr, c2.ps⟩ ∧ ns1.length = c2.ns.length ∧ usB ns1 ((n : Int) * 1000 + i) ∧ s = (0, AV.bp 350001 0 []) :: (3, .own (intsV (hs ++ [n])) 200025) :: (200025, .tok 3 1) :: (4, .val (.i (n : Int))) :: (6, .val (.i (to : Int))) :: (7, .val (.i ((fr + i : Nat) : Int))) :: cstF ⟨ns1, c2.vr, c2.ps⟩) (n := to - fr) (s' := (0, AV.bp 350001 0 []) :: (3, .own (intsV (hs ++ [n])) 200025) :: (200025, .tok 3 1) :: (4, .val (.i (n : Int))) :: (6, .val (.i (to : Int))) :: (7, .val (.i ((fr + 0 : Nat) : Int))) :: cstF ⟨c2.ns, c2.vr, c2.ps⟩) ((wk_sub (s' := (0, AV.bp 350001 0 []) :: (3, .own (intsV (hs ++ [n])) 200025) :: (200025, .tok 3 1) :: (4, .val (.i (n : Int))) :: (6, .val (.i (to : Int))) :: (7, .val (.i ((fr + 0 : Nat) : Int))) :: cstM c2) ⟨rfl, rfl, rfl, rfl, rfl, rfl, rfl, rfl, rfl, rfl, rfl, rfl, rfl, trivial⟩).trans (wk_renF 300001 400001 rfl rfl (hUno hU (by kernel_rfl)) (by kernel_rfl) (by kernel_rfl) (by kernel_rfl))) ⟨0, c2.ns, by omega, hus, hFp, rfl, hup.mono (by omega), rfl⟩ ?_)
  rintro m s ⟨i, ns1, him, hu1, hF3, hl3, hb3, rfl⟩
  refine aS (aS (aR ?_))
  (refine nx (aM (gN rfl) rfl rfl rfl rfl rfl) rfl ?_)
  (refine nx (aM (gN rfl) rfl rfl rfl rfl rfl) rfl ?_)
  (refine nx (a_lss (gN rfl) rfl rfl rfl rfl rfl rfl) rfl ?_)
  show AWp _ _ _ _ _ _ _
  cases m with
  | zero =>
    have hus1 : some ns1 = some ns := hu1
    have hus1 := Option.some.inj hus1
    subst hus1
    refine aC rfl (fun hc => ?_) (fun hc => ?_)
    · exfalso
      have : ((fr + i : Nat) : Int) < to := by simpa using hc
      omega
    refine aE ?_
    show AWp _ _ _ _ _ _ _
    refine aR ?_
    (refine nx (aM (gN rfl) rfl rfl rfl rfl rfl) rfl ?_)
    (refine nx (a_add (gN rfl) rfl rfl rfl rfl rfl rfl (by first | omega | (simp only [List.length_map, List.length_append, List.length_cons, List.length_nil] <;> omega) | (simp <;> omega))) rfl ?_)
    (refine nx (aA (gN rfl) rfl rfl rfl rfl rfl) rfl ?_)
    refine ⟨j, (0, AV.bp 350001 0 []) :: (3, .own (intsV (hs ++ [n])) 200025) :: (200025, .tok 3 1) :: (4, .val (.i ((n + 1 : Nat) : Int))) :: cstM ⟨ns1, c2.vr, c2.ps⟩, by omega, ⟨n + 1, ⟨ns1, c2.vr, c2.ps⟩, hs ++ [n], hq, hF3, hb3.mono (by omega), by omega, by rw [List.length_append]; simp only [List.length_cons, List.length_nil]; omega, rfl⟩, (wk_sub (s' := (0, AV.bp 350001 0 []) :: (3, .own (intsV (hs ++ [n])) 200025) :: (200025, .tok 3 1) :: (4, .val (.i ((n + 1 : Nat) : Int))) :: cstF ⟨ns1, c2.vr, c2.ps⟩) ⟨rfl, rfl, rfl, rfl, rfl, rfl, rfl, rfl, rfl, rfl, rfl, trivial⟩).trans (wk_renF 400001 300001 rfl rfl (hUlow U (by decide)) (by kernel_rfl) (by kernel_rfl) (by kernel_rfl))⟩
  | succ m =>
    have hp1 : fr + i < ns1.length := by omega
    rw [List.range'_succ, useC] at hu1
    cases hd2 : headC k ns1 (fr + i) with
    | none => rw [hd2] at hu1; cases hu1
    | some r2 =>
    rw [hd2] at hu1
    simp only at hu1
    obtain ⟨hF4, hl4, hr4⟩ := FitU.head hF3 hp1 hd2
    have hb4 := hb3.head hd2
    have hdc2 := uHead_abs c2.vr c2.ps k ns1 (fr + i) r2 hd2 hF3.up hp1 (by omega)
    have hcst : cstF ⟨r2.1, c2.vr, c2.ps⟩ = [(450001, .obj), (35500100, .sl 400001 0 ns1.length 5), (35500101, .mref 300003), (35500102, .sl 300002 0 c2.ps.length 2), (400001, .mrow 108 5 (r2.1.map Nd.cv)), (300003, .mp (c2.vr.map vrv)), (300002, .mrow 117 2 (c2.ps.map psv))] := by simp only [cstF, hl4]
    rw [hcst] at hdc2
    obtain ⟨y, hy⟩ := nd_at (ns := r2.1) (n := r2.2) (by omega)
    have hy' := Nd.map_at hy
    have hlm : (r2.1.map Nd.cv).length = r2.1.length := List.length_map ..
    have hys : nS r2.1 r2.2 = y.us := by unfold nS; rw [getD_at hy]
    have hyb := hb4 r2.2
    rw [hys] at hyb hu1
    refine aC rfl (fun hc => ?_) (fun hc => ?_)
    case refine_2 =>
      have : ¬ ((fr + i : Nat) : Int) < to := by simpa using hc
      omega
    refine aK ?_
    show AWp _ _ _ _ _ _ _
    refine aS (aB (aD (by kernel_rfl) (by kernel_rfl) ?_))
    (refine nx (aM (gN rfl) rfl rfl rfl rfl rfl) rfl ?_)
    (refine nx (aNc (gN rfl) rfl rfl rfl rfl rfl) rfl ?_)
    (refine nx (aF (gN rfl) rfl rfl rfl rfl rfl rfl rfl rfl rfl) rfl ?_)
    (refine nx (aLf (gN rfl) rfl rfl rfl rfl rfl rfl rfl rfl rfl rfl rfl rfl rfl) rfl ?_)
    (refine nx (aM (gN rfl) rfl rfl rfl rfl rfl) rfl ?_)
    (refine nx (aM (gN rfl) rfl rfl rfl rfl rfl) rfl ?_)
    (refine nx (a_callOU ([(400001, .mrow 108 5 (r2.1.map Nd.cv))]) (gN rfl) rfl rfl rfl rfl rfl (hdc2) (by repeat (first | exact trivial | refine ⟨rfl, ?_⟩)) (by first | rfl | kernel_rfl) (by first | rfl | kernel_rfl) (by first | rfl | kernel_rfl) (by first | rfl | kernel_rfl) (hnb_of (by first | rfl | kernel_rfl)) (by repeat (first | exact trivial | refine ⟨rfl, ?_⟩)) (by repeat (first | exact trivial | refine ⟨.inl rfl, ?_⟩ | refine ⟨.inr rfl, ?_⟩)) (by first | rfl | kernel_rfl) (by first | rfl | kernel_rfl)) rfl ?_)
    (refine nx (aIm (k := r2.2) (gN rfl) rfl rfl rfl rfl rfl rfl rfl rfl rfl (by first | rfl | omega | (simp only [List.length_set, List.length_map, List.length_append, List.length_cons, List.length_nil] <;> omega) | (simp <;> omega))) rfl ?_)
    (refine nx (a_fieldM (gN rfl) rfl rfl rfl rfl rfl rfl rfl rfl rfl) rfl ?_)
    (refine nx (a_loadM (gN rfl) rfl rfl rfl rfl rfl rfl rfl rfl (hy') rfl (by first | rfl | omega | (simp only [List.length_set, List.length_map, List.length_append, List.length_cons, List.length_nil] <;> omega) | (simp <;> omega)) rfl rfl) rfl ?_)
    (refine nx (a_add (gN rfl) rfl rfl rfl rfl rfl rfl (by first | omega | (simp only [List.length_map, List.length_append, List.length_cons, List.length_nil] <;> omega) | (simp <;> omega))) rfl ?_)
    (refine nx (aIm (k := r2.2) (gN rfl) rfl rfl rfl rfl rfl rfl rfl rfl rfl (by first | rfl | omega | (simp only [List.length_set, List.length_map, List.length_append, List.length_cons, List.length_nil] <;> omega) | (simp <;> omega))) rfl ?_)
    (refine nx (a_fieldM (gN rfl) rfl rfl rfl rfl rfl rfl rfl rfl rfl) rfl ?_)
    (refine nx (a_storeM (gN rfl) rfl rfl rfl rfl rfl rfl (hy') rfl rfl (by first | rfl | omega | (simp only [List.length_set, List.length_map, List.length_append, List.length_cons, List.length_nil] <;> omega) | (simp <;> omega)) rfl) rfl ?_)
    refine ⟨by kernel_rfl, ?_⟩
    show AWp _ _ _ _ _ _ _
    refine aR ?_
    (refine nx (aM (gN rfl) rfl rfl rfl rfl rfl) rfl ?_)
    (refine nx (a_add (gN rfl) rfl rfl rfl rfl rfl rfl (by first | omega | (simp only [List.length_map, List.length_append, List.length_cons, List.length_nil] <;> omega) | (simp <;> omega))) rfl ?_)
    (refine nx (aA (gN rfl) rfl rfl rfl rfl rfl) rfl ?_)
    refine ⟨m, (0, AV.bp 350001 0 []) :: (3, .own (intsV (hs ++ [n])) 200025) :: (200025, .tok 3 1) :: (4, .val (.i (n : Int))) :: (6, .val (.i (to : Int))) :: (7, .val (.i ((fr + (i + 1) : Nat) : Int))) :: cstF ⟨setUs r2.1 r2.2 (y.us + 1), c2.vr, c2.ps⟩, by omega, ⟨i + 1, setUs r2.1 r2.2 (y.us + 1), by omega, by rw [← Nat.add_assoc]; exact hu1, hF4.us _ _, by rw [setUsLen]; omega, (hb4.set (by omega)).mono (by omega), rfl⟩, wk_sub ⟨rfl, rfl, rfl, rfl, rfl, rfl, rfl, ?_, rfl, rfl, ?_, rfl, rfl, trivial⟩⟩
    · show _ = some (AV.sl 400001 0 (setUs r2.1 r2.2 (y.us + 1)).length 5); rw [setUsLen, hl4]; rfl
    · show _ = some (AV.mrow 108 5 ((setUs r2.1 r2.2 (y.us + 1)).map Nd.cv)); rw [map_setUs hy]; rfl
theorem useC_keep {k : Nat} {vr ps} : ∀ (l : List Nat) {ns ns' : List Nd} {B : Int}, useC k l ns = some ns' → FitU ⟨ns, vr, ps⟩ → (∀ p ∈ l, p < ns.length) → usB ns B → FitU ⟨ns', vr, ps⟩ ∧ ns'.length = ns.length ∧ usB ns' (B + l.length)
  | [], ns, ns', B, e, h, _, hb => by cases e; exact ⟨h, rfl, hb.mono (by simp)⟩
  | p :: l, ns, ns', B, e, h, hl, hb => by
    rw [useC] at e
    cases hd : headC k ns p with
    | none => rw [hd] at e; cases e
    | some r =>
      rw [hd] at e
      simp only at e
      obtain ⟨h1, h2, h3⟩ := h.head (hl p (by simp)) hd
      have hb1 := hb.head hd
      have hb2 := hb1 r.2
      obtain ⟨g1, g2, g3⟩ := useC_keep l e (h1.us _ _) (fun q hq => by rw [setUsLen, h2]; exact hl q (List.mem_cons_of_mem _ hq)) (hb1.set (by omega))
      exact ⟨g1, by rw [g2, setUsLen, h2], g3.mono (by simp only [List.length_cons]; omega)⟩
theorem countC_keep {k : Nat} : ∀ (j n : Nat) {c : Cl} {hs : List Nat} {q}, countC k j n c hs = some q → FitU c → usB c.ns ((n : Int) * 1000) → n ≤ 1000 → (∀ h ∈ hs, h < c.ns.length) → hs.length ≤ n → FitU q.1 ∧ usB q.1.ns 1000000 ∧ (∀ h ∈ q.2, h < q.1.ns.length) ∧ q.2.length ≤ 1000
  | 0, _, _, _, _, e, _, _, _, _, _ => by cases e
  | j + 1, n, c, hs, q, e, hF, hu, hn, hh, hl => by
    have hl0 : c.ns.length ≤ 1000 := Nat.le_trans (len_pw _) hF.big
    rw [countC] at e
    split at e
    · rename_i hlt
      cases hd : headC k c.ns n with
      | none => rw [hd] at e; cases e
      | some r =>
        rw [hd] at e
        simp only at e
        obtain ⟨h1, h2, h3⟩ := FitU.head (vr := c.vr) (ps := c.ps) hF hlt hd
        have hu1 := hu.head hd
        split at e
        · exact countC_keep j (n + 1) e h1 (hu1.mono (by omega)) (by omega) (fun h hm => by show h < r.1.length; rw [h2]; exact hh h hm) (by omega)
        · have hn1 : n < r.1.length := by omega
          obtain ⟨c1, hc1⟩ : ∃ c1 : Cl, c1 = ⟨r.1, c.vr, c.ps⟩ := ⟨_, rfl⟩
          rw [← hc1] at e h1
          have hn1 : n < c1.ns.length := by rw [hc1]; exact hn1
          have hp := h1.parts hn1
          have hu2 : usB c1.ns ((n : Int) * 1000) := by rw [hc1]; exact hu1
          have hup := hu2.parts (by omega) n
          have hlp : (pC c1 n).1.ns.length ≤ 1000 := Nat.le_trans (len_pw _) hp.big
          have hsn := snd_le h1.kid hn1
          cases hus : useC k (List.range' (pC c1 n).2.1 ((pC c1 n).2.2 - (pC c1 n).2.1)) (pC c1 n).1.ns with
          | none => rw [hus] at e; cases e
          | some ns =>
            rw [hus] at e
            simp only at e
            obtain ⟨g1, g2, g3⟩ := useC_keep (vr := (pC c1 n).1.vr) (ps := (pC c1 n).1.ps) _ hus hp (fun p hp2 => by rw [List.mem_range'_1] at hp2; omega) hup
            rw [List.length_range'] at g3
            have hge : c1.ns.length ≤ (pC c1 n).1.ns.length := parts_len
            refine countC_keep j (n + 1) e g1 (g3.mono (by omega)) (by omega) (fun h hm => ?_) (by rw [List.length_append]; simp only [List.length_cons, List.length_nil]; omega)
            show h < ns.length
            rw [g2]
            have : c1.ns.length = c.ns.length := by rw [hc1]; exact h2
            rcases List.mem_append.1 hm with hm | hm
            · have := hh h hm; omega
            · rw [List.mem_singleton] at hm; omega
    · cases e
      exact ⟨hF, hu.mono (by omega), hh, by show hs.length ≤ 1000; omega⟩
theorem downC_keep {k : Nat} {vr ps} : ∀ (l : List Nat) {ns : List Nd} {o : List Nat} {q} {B : Int}, downC k l ns o = some q → FitU ⟨ns, vr, ps⟩ → (∀ p ∈ l, p < ns.length) → usB ns B → (∀ h ∈ o, h < ns.length) → FitU ⟨q.1, vr, ps⟩ ∧ q.1.length = ns.length ∧ usB q.1 (B + l.length) ∧ o.length ≤ q.2.length ∧ ∀ h ∈ q.2, h < ns.length
  | [], ns, o, q, B, e, h, _, hb, ho => by cases e; exact ⟨h, rfl, hb.mono (by simp), Nat.le_refl _, ho⟩
  | p :: l, ns, o, q, B, e, h, hl, hb, ho => by
    rw [downC] at e
    cases hd : headC k ns p with
    | none => rw [hd] at e; cases e
    | some r =>
      rw [hd] at e
      simp only at e
      obtain ⟨h1, h2, h3⟩ := h.head (hl p (by simp)) hd
      have hb1 := hb.head hd
      have hb2 := hb1 r.2
      obtain ⟨g1, g2, g3, g4, g5⟩ := downC_keep l e (h1.us _ _) (fun q hq => by rw [setUsLen, h2]; exact hl q (List.mem_cons_of_mem _ hq)) (hb1.set (by omega)) (fun x hx => by
        rw [setUsLen, h2]
        split at hx
        · rcases List.mem_append.1 hx with hx | hx
          · exact ho x hx
          · rw [List.mem_singleton] at hx; omega
        · exact ho x hx)
      refine ⟨g1, by rw [g2, setUsLen, h2], g3.mono (by simp only [List.length_cons]; omega), ?_, fun x hx => by have := g5 x hx; rw [setUsLen, h2] at this; exact this⟩
      split at g4
      · rw [List.length_append] at g4; omega
      · exact g4
theorem ordC_grow {k : Nat} : ∀ (j i : Nat) {c : Cl} {o : List Nat} {q}, ordC k j i c o = some q → FitU c → (∀ h ∈ o, h < c.ns.length) → ∀ {B : Int}, 0 ≤ B → usB c.ns B → o.length ≤ q.2.length
  | 0, _, _, _, _, e, _, _, _, _, _ => by cases e
  | j + 1, i, c, o, q, e, hF, ho, B, hB, hu => by
    rw [ordC] at e
    cases hi : o[i]? with
    | none => rw [hi] at e; cases e; exact Nat.le_refl _
    | some g =>
      rw [hi] at e
      simp only at e
      have hg := ho g (List.mem_of_getElem? hi)
      have hp := hF.parts hg
      have hsn := snd_le hF.kid hg
      cases hd : downC k (List.range' (pC c g).2.1 ((pC c g).2.2 - (pC c g).2.1)) (pC c g).1.ns o with
      | none => rw [hd] at e; cases e
      | some qd =>
        rw [hd] at e
        simp only at e
        have hge : c.ns.length ≤ (pC c g).1.ns.length := parts_len
        obtain ⟨g1, g2, g3, g4, g5⟩ := downC_keep (vr := (pC c g).1.vr) (ps := (pC c g).1.ps) _ hd hp (fun p hp2 => by rw [List.mem_range'_1] at hp2; omega) (hu.parts hB g) (fun x hx => by have := ho x hx; omega)
        have := ordC_grow j (i + 1) e g1 (fun x hx => by show x < qd.1.length; rw [g2]; exact g5 x hx) (by omega) g3
        omega
theorem nats_at {l : List Nat} {i n : Nat} (h : l[i]? = some n) : (l.map fun n : Nat => CV.i (n : Int))[i]? = some (.i (n : Int)) := by rw [List.getElem?_map, h]; rfl
abbrev us0 (ns : List Nd) (n : Nat) : Bool := decide (nS ns n = 0)
-- 
set_option maxHeartbeats 16000000 in
theorem uOrd_abs (k : Nat) (c0 : Cl) (cn od : Cl × List Nat) (hq : countC k k 0 c0 [] = some cn) (ho : ordC k k 0 cn.1 (cn.2.filter fun n => decide (nS cn.1.ns n = 0)) = some od) (hF0 : FitU c0) (hu0 : usB c0.ns 0) (hol : od.2.length ≤ 1000) : AFunO Try.prog 42 (cstM c0) [.bp 350001 0 []] (.tup [intsV od.2, .b (decide ((od.2.length : Int) = cn.2.length))]) (cstM od.1) := by
  obtain ⟨hF1, hu1, hh1, hhl⟩ := countC_keep k 0 hq hF0 (by simpa using hu0) (by omega) (fun h hm => by cases hm) (Nat.le_refl _)
  have hcnt := uCount_abs k k c0 cn hq hF0 hu0
  obtain ⟨c, hc⟩ : ∃ c, c = cn.1 := ⟨_, rfl⟩
  obtain ⟨hs, hhs⟩ : ∃ hs, hs = cn.2 := ⟨_, rfl⟩
  rw [← hc] at ho hF1 hu1 hh1 hcnt
  rw [← hhs] at ho hh1 hhl hcnt ⊢
  have hl : c.ns.length ≤ 1000 := Nat.le_trans (len_pw _) hF1.big
  have hlm : (c.ns.map Nd.cv).length = c.ns.length := List.length_map ..
  have hss := nats_size hs
  refine afunO_of Try.func42 Try.ntmps42 rfl rfl rfl rfl rfl rfl ?_
  intro w U hU
  refine aS (aR ?_)
  (refine nx (aA (gN rfl) rfl rfl rfl rfl rfl) rfl ?_)
  (refine nx (aA (gN rfl) rfl rfl rfl rfl rfl) rfl ?_)
  show AWp _ _ _ _ _ _ _
  refine aS (aR ?_)
  (refine nx (aM (gN rfl) rfl rfl rfl rfl rfl) rfl ?_)
  (refine nx (a_callO (gN rfl) rfl rfl rfl rfl rfl (hcnt) (by repeat (first | exact trivial | refine ⟨rfl, ?_⟩)) (by first | rfl | kernel_rfl) (by first | rfl | kernel_rfl) (by first | rfl | kernel_rfl) (by first | rfl | kernel_rfl) (hnb_of (by first | rfl | kernel_rfl))) rfl ?_)
  (refine nx (aA (gN rfl) rfl rfl rfl rfl rfl) rfl ?_)
  show AWp _ _ _ _ _ _ _
  refine aS (aR ?_)
  (refine nx (aA (gN rfl) rfl rfl rfl rfl rfl) rfl ?_)
  show AWp _ _ _ _ _ _ _
  refine aS (aS (aR ?_))
  (refine nx (aM (gN rfl) rfl rfl rfl rfl rfl) rfl ?_)
  (refine nx (a_len (gN rfl) rfl rfl rfl rfl rfl rfl rfl) rfl ?_)
  (refine nx (aM (gN rfl) rfl rfl rfl rfl rfl) rfl ?_)
  show AWp _ _ _ _ _ _ _
  refine aB (awp_count hs.length (fun i => (0, AV.bp 350001 0 []) :: (4, .val (intsV hs)) :: (5, .own (intsV ((hs.take i).filter (us0 c.ns))) 200033) :: (200033, .tok 3 1) :: (15, .val (intsV hs)) :: (16, .val (.i (hs.map fun n : Nat => CV.i (n : Int)).length)) :: (17, .val (.i i)) :: cstM c) ((wk_nil 5 200033 3 1 rfl rfl rfl rfl rfl rfl (by kernel_rfl)).trans (wk_sub ⟨rfl, rfl, rfl, rfl, rfl, rfl, rfl, rfl, rfl, rfl, rfl, rfl, rfl, rfl, trivial⟩)) ?_)
  intro i hi
  refine aS (aR ?_)
  (refine nx (a_lss (gN rfl) rfl rfl rfl rfl rfl rfl) rfl ?_)
  show AWp _ _ _ _ _ _ _
  refine aS (aC rfl (fun hlt => ?_) (fun hlt => ?_))
  · have hil : i < hs.length := by simpa using hlt
    obtain ⟨n, hn⟩ : ∃ n, hs[i]? = some n := ⟨hs[i], List.getElem?_eq_getElem hil⟩
    have hn' := nats_at hn
    have hnl := hh1 n (List.mem_of_getElem? hn)
    obtain ⟨x, hx⟩ := nd_at hnl
    have hx' := Nd.map_at hx
    have hxs : nS c.ns n = x.us := by unfold nS; rw [getD_at hx]
    have htk : (hs.take (i + 1)).filter (us0 c.ns) = (hs.take i).filter (us0 c.ns) ++ (if nS c.ns n = 0 then [n] else []) := by
      rw [List.take_add_one, hn, List.filter_append]
      congr 1
      show List.filter (us0 c.ns) [n] = _
      unfold us0
      by_cases h0 : nS c.ns n = 0
      · simp [h0]
      · simp [h0]
    have hfs := nats_size ((hs.take i).filter (us0 c.ns))
    have hfl : ((hs.take i).filter (us0 c.ns)).length ≤ 1000 := Nat.le_trans (List.length_filter_le _ _) (by rw [List.length_take]; omega)
    refine aK ?_
    show AWp _ _ _ _ _ _ _
    refine aS (aB (aS (aR ?_)))
    (refine nx (a_index (j := i) (gN rfl) rfl rfl rfl rfl rfl rfl rfl rfl rfl (hn') rfl (hss)) rfl ?_)
    (refine nx (a_load_ad (gN rfl) rfl rfl rfl rfl rfl rfl rfl rfl rfl) rfl ?_)
    (refine nx (aA (gN rfl) rfl rfl rfl rfl rfl) rfl ?_)
    show AWp _ _ _ _ _ _ _
    refine aS (aR ?_)
    (refine nx (aM (gN rfl) rfl rfl rfl rfl rfl) rfl ?_)
    (refine nx (aNc (gN rfl) rfl rfl rfl rfl rfl) rfl ?_)
    (refine nx (aF (gN rfl) rfl rfl rfl rfl rfl rfl rfl rfl rfl) rfl ?_)
    (refine nx (aLf (gN rfl) rfl rfl rfl rfl rfl rfl rfl rfl rfl rfl rfl rfl rfl) rfl ?_)
    (refine nx (aM (gN rfl) rfl rfl rfl rfl rfl) rfl ?_)
    (refine nx (aIm (k := n) (gN rfl) rfl rfl rfl rfl rfl rfl rfl rfl rfl (by first | rfl | omega | (simp only [List.length_set, List.length_map, List.length_append, List.length_cons, List.length_nil] <;> omega) | (simp <;> omega))) rfl ?_)
    (refine nx (a_fieldM (gN rfl) rfl rfl rfl rfl rfl rfl rfl rfl rfl) rfl ?_)
    (refine nx (a_loadM (gN rfl) rfl rfl rfl rfl rfl rfl rfl rfl (hx') rfl (by first | rfl | omega | (simp only [List.length_set, List.length_map, List.length_append, List.length_cons, List.length_nil] <;> omega) | (simp <;> omega)) rfl rfl) rfl ?_)
    (refine nx (a_eql (gN rfl) rfl rfl rfl rfl rfl rfl) rfl ?_)
    show AWp _ _ _ _ _ _ _
    refine AWp.wk (wk_sub (s' := (0, AV.bp 350001 0 []) :: (4, .val (intsV hs)) :: (5, .own (intsV ((hs.take i).filter (us0 c.ns))) 200033) :: (200033, .tok 3 1) :: (7, .val (.i (n : Int))) :: (29, .val (.b (decide (x.us = 0)))) :: (15, .val (intsV hs)) :: (16, .val (.i (hs.map fun n : Nat => CV.i (n : Int)).length)) :: (17, .val (.i i)) :: cstM c) ⟨rfl, rfl, rfl, rfl, rfl, rfl, rfl, rfl, rfl, rfl, rfl, rfl, rfl, rfl, rfl, rfl, trivial⟩) ?_
    refine aC rfl (fun h0 => ?_) (fun h0 => ?_)
    · have h0 : x.us = 0 := by simpa using h0
      rw [hxs, if_pos h0] at htk
      refine aR ?_
      (refine nx (aM (gN rfl) rfl rfl rfl rfl rfl) rfl ?_)
      (refine nx (aM (gN rfl) rfl rfl rfl rfl rfl) rfl ?_)
      (refine nx (a_bslice (gN rfl) rfl rfl rfl rfl rfl rfl rfl rfl rfl rfl rfl rfl rfl) rfl ?_)
      (refine nx (a_app (gN rfl) rfl rfl rfl rfl rfl rfl rfl rfl rfl rfl rfl rfl rfl rfl rfl (by first | assumption | exact sZ rfl | exact Tm.size_all _ | exact Bd.size_all _ | exact ints_size _ | exact bys_size _ | exact Lt.size_all _) (by first | assumption | exact sZ rfl | exact Tm.size_all _ | exact Bd.size_all _ | exact ints_size _ | exact bys_size _ | exact Lt.size_all _) (by first | omega | (simp only [List.length_map, List.length_append, List.length_cons, List.length_nil] <;> omega) | (simp <;> omega))) (by kernel_rfl) ?_)
      (refine nx (aA (gN rfl) rfl rfl rfl rfl rfl) rfl ?_)
      show AWp _ _ _ _ _ _ _
      refine aR ?_
      (refine nx (a_add (gN rfl) rfl rfl rfl rfl rfl rfl (by first | omega | (simp only [List.length_map, List.length_append, List.length_cons, List.length_nil] <;> omega) | (simp <;> omega))) rfl ?_)
      (refine nx (aM (gN rfl) rfl rfl rfl rfl rfl) rfl ?_)
      refine ⟨hil, Wk.trans (wk_sub (s' := (0, AV.bp 350001 0 []) :: (4, .val (intsV hs)) :: (5, .own (intsV ((hs.take (i + 1)).filter (us0 c.ns))) 300033) :: (300033, .tok 3 1) :: (15, .val (intsV hs)) :: (16, .val (.i (hs.map fun n : Nat => CV.i (n : Int)).length)) :: (17, .val (.i ((i + 1 : Nat) : Int))) :: cstM c) ⟨rfl, rfl, ?_, rfl, rfl, rfl, rfl, rfl, rfl, rfl, rfl, rfl, rfl, rfl, trivial⟩) (wk_ren 300033 200033 rfl rfl (by kernel_rfl) (by kernel_rfl))⟩
      rw [htk]
      show _ = some (AV.own (.lst (((hs.take i).filter (us0 c.ns) ++ [n]).map fun n : Nat => CV.i (n : Int))) 300033)
      rw [List.map_append]; rfl
    · have h0 : ¬ x.us = 0 := by simpa using h0
      rw [hxs, if_neg h0, List.append_nil] at htk
      refine aK ?_
      show AWp _ _ _ _ _ _ _
      refine aR ?_
      (refine nx (a_add (gN rfl) rfl rfl rfl rfl rfl rfl (by first | omega | (simp only [List.length_map, List.length_append, List.length_cons, List.length_nil] <;> omega) | (simp <;> omega))) rfl ?_)
      (refine nx (aM (gN rfl) rfl rfl rfl rfl rfl) rfl ?_)
      refine ⟨hil, ?_⟩
      show Wk _ _ _ _ (_ :: _ :: (5, .own (intsV ((hs.take (i + 1)).filter (us0 c.ns))) 200033) :: _ :: _ :: _ :: _ :: cstM c)
      rw [htk]
      exact wk_sub ⟨rfl, rfl, rfl, rfl, rfl, rfl, rfl, rfl, rfl, rfl, rfl, rfl, rfl, rfl, trivial⟩
  have hil : i = hs.length := by
    have : ¬ i < hs.length := by simpa using hlt
    omega
  subst hil
  rw [List.take_length]
  refine aE ?_
  show AWp _ _ _ _ _ _ _
  refine aS (aS (aR ?_))
  (refine nx (aA (gN rfl) rfl rfl rfl rfl rfl) rfl ?_)
  show AWp _ _ _ _ _ _ _
  have ho2 : ∀ h ∈ hs.filter (us0 c.ns), h < c.ns.length := fun h hm => hh1 h (List.mem_filter.1 hm).1
  refine aB (awp_loop (fun j s => ∃ i c o, ordC k j i c o = some od ∧ FitU c ∧ usB c.ns (1000000 + (i : Int) * 1000) ∧ (∀ h ∈ o, h < c.ns.length) ∧ i ≤ o.length ∧ s = (0, AV.bp 350001 0 []) :: (4, .val (intsV hs)) :: (5, .own (intsV o) 200082) :: (200082, .tok 3 1) :: (8, .val (.i (i : Int))) :: cstM c) (n := k) (s' := (0, AV.bp 350001 0 []) :: (4, .val (intsV hs)) :: (5, .own (intsV (hs.filter (us0 c.ns))) 200082) :: (200082, .tok 3 1) :: (8, .val (.i ((0 : Nat) : Int))) :: cstM c) ((wk_sub (s' := (0, AV.bp 350001 0 []) :: (4, .val (intsV hs)) :: (5, .own (intsV (hs.filter (us0 c.ns))) 200033) :: (200033, .tok 3 1) :: (8, .val (.i ((0 : Nat) : Int))) :: cstM c) ⟨rfl, rfl, rfl, rfl, rfl, rfl, rfl, rfl, rfl, rfl, rfl, rfl, trivial⟩).trans (wk_ren 200033 200082 rfl rfl (by kernel_rfl) (by kernel_rfl))) ⟨0, c, hs.filter (us0 c.ns), ho, hF1, hu1.mono (by omega), ho2, Nat.zero_le _, rfl⟩ ?_)
  clear ho ho2 hlm hl hcnt hF1 hu1 hh1
  rintro j s ⟨i, c, o, ho, hF, hu, hh, hio, rfl⟩
  have hl : c.ns.length ≤ 1000 := Nat.le_trans (len_pw _) hF.big
  have hol1 : o.length ≤ od.2.length := ordC_grow j i ho hF hh (by omega) hu
  have hos := nats_size o
  cases j with
  | zero => cases ho
  | succ j =>
  rw [ordC] at ho
  refine aS (aS (aR ?_))
  (refine nx (aM (gN rfl) rfl rfl rfl rfl rfl) rfl ?_)
  (refine nx (aM (gN rfl) rfl rfl rfl rfl rfl) rfl ?_)
  (refine nx (a_len (gN rfl) rfl rfl rfl rfl rfl rfl rfl) rfl ?_)
  (refine nx (a_lss (gN rfl) rfl rfl rfl rfl rfl rfl) rfl ?_)
  show AWp _ _ _ _ _ _ _
  cases hoi : o[i]? with
  | none =>
    rw [hoi] at ho
    simp only at ho
    have ho := Option.some.inj ho
    subst ho
    have hil : o.length ≤ i := List.getElem?_eq_none_iff.1 hoi
    refine aC rfl (fun hc => ?_) (fun hc => ?_)
    · exfalso
      have : i < o.length := by simpa using hc
      omega
    refine aE ?_
    show AWp _ _ _ _ _ _ _
    refine aS (aR ?_)
    (refine nx (aM (gN rfl) rfl rfl rfl rfl rfl) rfl ?_)
    (refine nx (aM (gN rfl) rfl rfl rfl rfl rfl) rfl ?_)
    (refine nx (a_len (gN rfl) rfl rfl rfl rfl rfl rfl rfl) rfl ?_)
    (refine nx (aM (gN rfl) rfl rfl rfl rfl rfl) rfl ?_)
    (refine nx (a_len (gN rfl) rfl rfl rfl rfl rfl rfl rfl) rfl ?_)
    (refine nx (a_eql (gN rfl) rfl rfl rfl rfl rfl rfl) rfl ?_)
    (refine nx (aA (gN rfl) rfl rfl rfl rfl rfl) rfl ?_)
    (refine nx (aA (gN rfl) rfl rfl rfl rfl rfl) rfl ?_)
    show AWp _ _ _ _ _ _ _
    refine aT ⟨.inr rfl, _, Wk.refl _, ?_, rfl, rfl, rfl, rfl, rfl, rfl, rfl, trivial⟩
    show some (AV.tup [intsV o, .b (decide (((o.map fun n : Nat => CV.i (n : Int)).length : Int) = ((hs.map fun n : Nat => CV.i (n : Int)).length : Nat)))]) = _
    rw [List.length_map, List.length_map]
  | some g =>
  rw [hoi] at ho
  simp only at ho
  have hoi' := nats_at hoi
  have hil : i < o.length := (List.getElem?_eq_some_iff.1 hoi).1
  have hgl := hh g (List.mem_of_getElem? hoi)
  refine aC rfl (fun hc => ?_) (fun hc => ?_)
  case refine_2 =>
    have : ¬ i < o.length := by simpa using hc
    omega
  refine aK ?_
  show AWp _ _ _ _ _ _ _
  have hFp := hF.parts hgl
  have hup := hu.parts (by omega) g
  have hlp : (pC c g).1.ns.length ≤ 1000 := Nat.le_trans (len_pw _) hFp.big
  have hpc := uParts_abs c g hgl hF.trm (by omega) (hF.kid.fi hgl (by omega))
  obtain ⟨c2, hc2⟩ : ∃ c2, c2 = (pC c g).1 := ⟨_, rfl⟩
  obtain ⟨fr, hfr⟩ : ∃ x, x = (pC c g).2.1 := ⟨_, rfl⟩
  obtain ⟨to, hto⟩ : ∃ x, x = (pC c g).2.2 := ⟨_, rfl⟩
  have hft : fr ≤ to := by rw [hfr, hto]; exact parts_pos.1
  have htl : to ≤ c2.ns.length := by rw [hto, hc2]; exact snd_le hF.kid hgl
  have hge : c.ns.length ≤ c2.ns.length := by rw [hc2]; exact parts_len
  rw [← hc2] at ho hFp hup hlp hpc
  rw [← hfr, ← hto] at ho hpc
  refine aS (aB (aS (aR ?_)))
  (refine nx (aM (gN rfl) rfl rfl rfl rfl rfl) rfl ?_)
  (refine nx (aM (gN rfl) rfl rfl rfl rfl rfl) rfl ?_)
  (refine nx (aM (gN rfl) rfl rfl rfl rfl rfl) rfl ?_)
  (refine nx (a_index (j := i) (gN rfl) rfl rfl rfl rfl rfl rfl rfl rfl rfl (hoi') rfl (hos)) rfl ?_)
  (refine nx (a_load_ad (gN rfl) rfl rfl rfl rfl rfl rfl rfl rfl rfl) rfl ?_)
  (refine nx (a_callO (gN rfl) rfl rfl rfl rfl rfl (hpc) (by repeat (first | exact trivial | refine ⟨rfl, ?_⟩)) (by first | rfl | kernel_rfl) (by first | rfl | kernel_rfl) (by first | rfl | kernel_rfl) (by first | rfl | kernel_rfl) (hnb_of (by first | rfl | kernel_rfl))) rfl ?_)
  (refine nx (aM (gN rfl) rfl rfl rfl rfl rfl) rfl ?_)
  (refine nx (aX (gN rfl) rfl rfl rfl rfl rfl rfl) rfl ?_)
  (refine nx (aX (gN rfl) rfl rfl rfl rfl rfl rfl) rfl ?_)
  (refine nx (aA (gN rfl) rfl rfl rfl rfl rfl) rfl ?_)
  (refine nx (aA (gN rfl) rfl rfl rfl rfl rfl) rfl ?_)
  show AWp _ _ _ _ _ _ _
  refine aS (aR ?_)
  (refine nx (aM (gN rfl) rfl rfl rfl rfl rfl) rfl ?_)
  (refine nx (aA (gN rfl) rfl rfl rfl rfl rfl) rfl ?_)
  show AWp _ _ _ _ _ _ _
  cases hdn : downC k (List.range' fr (to - fr)) c2.ns o with
  | none => rw [hdn] at ho; cases ho
  | some qd =>
  rw [hdn] at ho
  simp only at ho
  have hqd : qd.2.length ≤ od.2.length := by
    obtain ⟨g1, g2, g3, g4, g5⟩ := downC_keep (vr := c2.vr) (ps := c2.ps) _ hdn hFp (fun p hp2 => by rw [List.mem_range'_1] at hp2; omega) hup (fun x hx => by have := hh x hx; omega)
    exact ordC_grow j (i + 1) ho g1 (fun x hx => by show x < qd.1.length; rw [g2]; exact g5 x hx) (by omega) g3
  refine aB (awp_loop (fun m s => ∃ e ns1 o1, e + m = to - fr ∧ downC k (List.range' (fr + e) m) ns1 o1 = some qd ∧ FitU ⟨ns1, c2.vr, c2.ps⟩ ∧ ns1.length = c2.ns.length ∧ usB ns1 (1000000 + (i : Int) * 1000 + e) ∧ (∀ h ∈ o1, h < c2.ns.length) ∧ i + 1 ≤ o1.length ∧ s = (0, AV.bp 350001 0 []) :: (4, .val (intsV hs)) :: (5, .own (intsV o1) 200082) :: (200082, .tok 3 1) :: (8, .val (.i (i : Int))) :: (10, .val (.i (to : Int))) :: (11, .val (.i ((fr + e : Nat) : Int))) :: cstF ⟨ns1, c2.vr, c2.ps⟩) (n := to - fr) (s' := (0, AV.bp 350001 0 []) :: (4, .val (intsV hs)) :: (5, .own (intsV o) 200082) :: (200082, .tok 3 1) :: (8, .val (.i (i : Int))) :: (10, .val (.i (to : Int))) :: (11, .val (.i ((fr + 0 : Nat) : Int))) :: cstF ⟨c2.ns, c2.vr, c2.ps⟩) ((wk_sub (s' := (0, AV.bp 350001 0 []) :: (4, .val (intsV hs)) :: (5, .own (intsV o) 200082) :: (200082, .tok 3 1) :: (8, .val (.i (i : Int))) :: (10, .val (.i (to : Int))) :: (11, .val (.i ((fr + 0 : Nat) : Int))) :: cstM c2) ⟨rfl, rfl, rfl, rfl, rfl, rfl, rfl, rfl, rfl, rfl, rfl, rfl, rfl, rfl, trivial⟩).trans (wk_renF 300001 400001 rfl rfl (hUno hU (by kernel_rfl)) (by kernel_rfl) (by kernel_rfl) (by kernel_rfl))) ⟨0, c2.ns, o, by omega, hdn, hFp, rfl, hup.mono (by omega), fun h hm => by have := hh h hm; omega, by omega, rfl⟩ ?_)
  rintro m s ⟨e, ns1, o1, hem, hd1, hF3, hl3, hb3, ho3, hi3, rfl⟩
  have ho1l : o1.length ≤ qd.2.length := (downC_keep _ hd1 hF3 (fun p hp2 => by rw [List.mem_range'_1] at hp2; omega) hb3 (fun x hx => by rw [hl3]; exact ho3 x hx)).2.2.2.1
  have ho1s := nats_size o1
  refine aS (aS (aR ?_))
  (refine nx (aM (gN rfl) rfl rfl rfl rfl rfl) rfl ?_)
  (refine nx (aM (gN rfl) rfl rfl rfl rfl rfl) rfl ?_)
  (refine nx (a_lss (gN rfl) rfl rfl rfl rfl rfl rfl) rfl ?_)
  show AWp _ _ _ _ _ _ _
  cases m with
  | zero =>
    have hd2 : some (ns1, o1) = some qd := hd1
    have hd2 := Option.some.inj hd2
    subst hd2
    refine aC rfl (fun hc => ?_) (fun hc => ?_)
    · exfalso
      have : ((fr + e : Nat) : Int) < to := by simpa using hc
      omega
    refine aE ?_
    show AWp _ _ _ _ _ _ _
    refine aR ?_
    (refine nx (aM (gN rfl) rfl rfl rfl rfl rfl) rfl ?_)
    (refine nx (a_add (gN rfl) rfl rfl rfl rfl rfl rfl (by first | omega | (simp only [List.length_map, List.length_append, List.length_cons, List.length_nil] <;> omega) | (simp <;> omega))) rfl ?_)
    (refine nx (aA (gN rfl) rfl rfl rfl rfl rfl) rfl ?_)
    refine ⟨j, (0, AV.bp 350001 0 []) :: (4, .val (intsV hs)) :: (5, .own (intsV o1) 200082) :: (200082, .tok 3 1) :: (8, .val (.i ((i + 1 : Nat) : Int))) :: cstM ⟨ns1, c2.vr, c2.ps⟩, by omega, ⟨i + 1, ⟨ns1, c2.vr, c2.ps⟩, o1, ho, hF3, hb3.mono (by omega), fun h hm => by show h < ns1.length; rw [hl3]; exact ho3 h hm, hi3, rfl⟩, (wk_sub (s' := (0, AV.bp 350001 0 []) :: (4, .val (intsV hs)) :: (5, .own (intsV o1) 200082) :: (200082, .tok 3 1) :: (8, .val (.i ((i + 1 : Nat) : Int))) :: cstF ⟨ns1, c2.vr, c2.ps⟩) ⟨rfl, rfl, rfl, rfl, rfl, rfl, rfl, rfl, rfl, rfl, rfl, rfl, trivial⟩).trans (wk_renF 400001 300001 rfl rfl (hUlow U (by decide)) (by kernel_rfl) (by kernel_rfl) (by kernel_rfl))⟩
  | succ m =>
    have hp1 : fr + e < ns1.length := by omega
    rw [List.range'_succ, downC] at hd1
    cases hd2 : headC k ns1 (fr + e) with
    | none => rw [hd2] at hd1; cases hd1
    | some r2 =>
    rw [hd2] at hd1
    simp only at hd1
    obtain ⟨hF4, hl4, hr4⟩ := FitU.head hF3 hp1 hd2
    have hb4 := hb3.head hd2
    have hdc2 := uHead_abs c2.vr c2.ps k ns1 (fr + e) r2 hd2 hF3.up hp1 (by omega)
    obtain ⟨y, hy⟩ := nd_at (ns := r2.1) (n := r2.2) (by omega)
    have hy' := Nd.map_at hy
    have hlm : (r2.1.map Nd.cv).length = r2.1.length := List.length_map ..
    have hys : nS r2.1 r2.2 = y.us := by unfold nS; rw [getD_at hy]
    have hyb := hb4 r2.2
    rw [hys] at hyb hd1
    refine aC rfl (fun hc => ?_) (fun hc => ?_)
    case refine_2 =>
      have : ¬ ((fr + e : Nat) : Int) < to := by simpa using hc
      omega
    refine aK ?_
    show AWp _ _ _ _ _ _ _
    refine aS (aB (aS (aR ?_)))
    (refine nx (aM (gN rfl) rfl rfl rfl rfl rfl) rfl ?_)
    (refine nx (aM (gN rfl) rfl rfl rfl rfl rfl) rfl ?_)
    (refine nx (a_callO (gN rfl) rfl rfl rfl rfl rfl (hdc2) (by repeat (first | exact trivial | refine ⟨rfl, ?_⟩)) (by first | rfl | kernel_rfl) (by first | rfl | kernel_rfl) (by first | rfl | kernel_rfl) (by first | rfl | kernel_rfl) (hnb_of (by first | rfl | kernel_rfl))) rfl ?_)
    (refine nx (aA (gN rfl) rfl rfl rfl rfl rfl) rfl ?_)
    show AWp _ _ _ _ _ _ _
    refine aS (aR ?_)
    (refine nx (aM (gN rfl) rfl rfl rfl rfl rfl) rfl ?_)
    (refine nx (aNc (gN rfl) rfl rfl rfl rfl rfl) rfl ?_)
    (refine nx (aF (gN rfl) rfl rfl rfl rfl rfl rfl rfl rfl rfl) rfl ?_)
    (refine nx (aLf (gN rfl) rfl rfl rfl rfl rfl rfl rfl rfl rfl rfl rfl rfl rfl) rfl ?_)
    (refine nx (aM (gN rfl) rfl rfl rfl rfl rfl) rfl ?_)
    (refine nx (aIm (k := r2.2) (gN rfl) rfl rfl rfl rfl rfl rfl rfl rfl rfl (by first | rfl | omega | (simp only [List.length_set, List.length_map, List.length_append, List.length_cons, List.length_nil] <;> omega) | (simp <;> omega))) rfl ?_)
    (refine nx (a_fieldM (gN rfl) rfl rfl rfl rfl rfl rfl rfl rfl rfl) rfl ?_)
    (refine nx (a_loadM (gN rfl) rfl rfl rfl rfl rfl rfl rfl rfl (hy') rfl (by first | rfl | omega | (simp only [List.length_set, List.length_map, List.length_append, List.length_cons, List.length_nil] <;> omega) | (simp <;> omega)) rfl rfl) rfl ?_)
    (refine nx (a_sub (gN rfl) rfl rfl rfl rfl rfl rfl (by first | omega | (simp only [List.length_map, List.length_append, List.length_cons, List.length_nil] <;> omega) | (simp <;> omega))) rfl ?_)
    (refine nx (aIm (k := r2.2) (gN rfl) rfl rfl rfl rfl rfl rfl rfl rfl rfl (by first | rfl | omega | (simp only [List.length_set, List.length_map, List.length_append, List.length_cons, List.length_nil] <;> omega) | (simp <;> omega))) rfl ?_)
    (refine nx (a_fieldM (gN rfl) rfl rfl rfl rfl rfl rfl rfl rfl rfl) rfl ?_)
    (refine nx (a_storeM (gN rfl) rfl rfl rfl rfl rfl rfl (hy') rfl rfl (by first | rfl | omega | (simp only [List.length_set, List.length_map, List.length_append, List.length_cons, List.length_nil] <;> omega) | (simp <;> omega)) rfl) rfl ?_)
    show AWp _ _ _ _ _ _ _
    obtain ⟨ns2, hn2⟩ : ∃ ns2, ns2 = setUs r2.1 r2.2 (y.us - 1) := ⟨_, rfl⟩
    have hm2 : ns2.map Nd.cv = (r2.1.map Nd.cv).set r2.2 (Nd.cw { y with us := y.us - 1 }) := by rw [hn2]; exact map_setUs hy
    have hl2 : ns2.length = r2.1.length := by rw [hn2, setUsLen]
    have hy2 : ns2[r2.2]? = some { y with us := y.us - 1 } := by rw [hn2]; exact setUs_at hy
    have hy2' := Nd.map_at hy2
    have hlm2 : (ns2.map Nd.cv).length = ns2.length := List.length_map ..
    have hF5 : FitU ⟨ns2, c2.vr, c2.ps⟩ := by rw [hn2]; exact hF4.us _ _
    have hb5 : usB ns2 (1000000 + (i : Int) * 1000 + e + 1) := by rw [hn2]; exact hb4.set (by omega)
    rw [← hn2] at hd1
    refine AWp.wk (wk_sub (s' := (0, AV.bp 350001 0 []) :: (4, .val (intsV hs)) :: (5, .own (intsV o1) 200082) :: (200082, .tok 3 1) :: (8, .val (.i (i : Int))) :: (10, .val (.i (to : Int))) :: (11, .val (.i ((fr + e : Nat) : Int))) :: (12, .val (.i (r2.2 : Int))) :: cstF ⟨ns2, c2.vr, c2.ps⟩) ⟨rfl, rfl, rfl, rfl, rfl, rfl, rfl, rfl, rfl, ?_, rfl, rfl, ?_, rfl, rfl, trivial⟩) ?_
    · show _ = some (AV.sl 400001 0 ns2.length 5); rw [hl2]; rfl
    · show _ = some (AV.mrow 108 5 (ns2.map Nd.cv)); rw [hm2]; rfl
    refine aS (aR ?_)
    (refine nx (aM (gN rfl) rfl rfl rfl rfl rfl) rfl ?_)
    (refine nx (aNc (gN rfl) rfl rfl rfl rfl rfl) rfl ?_)
    (refine nx (aF (gN rfl) rfl rfl rfl rfl rfl rfl rfl rfl rfl) rfl ?_)
    (refine nx (aLf (gN rfl) rfl rfl rfl rfl rfl rfl rfl rfl rfl rfl rfl rfl rfl) rfl ?_)
    (refine nx (aM (gN rfl) rfl rfl rfl rfl rfl) rfl ?_)
    (refine nx (aIm (k := r2.2) (gN rfl) rfl rfl rfl rfl rfl rfl rfl rfl rfl (by first | rfl | omega | (simp only [List.length_set, List.length_map, List.length_append, List.length_cons, List.length_nil] <;> omega) | (simp <;> omega))) rfl ?_)
    (refine nx (a_fieldM (gN rfl) rfl rfl rfl rfl rfl rfl rfl rfl rfl) rfl ?_)
    (refine nx (a_loadM (gN rfl) rfl rfl rfl rfl rfl rfl rfl rfl (hy2') rfl (by first | rfl | omega | (simp only [List.length_set, List.length_map, List.length_append, List.length_cons, List.length_nil] <;> omega) | (simp <;> omega)) rfl rfl) rfl ?_)
    (refine nx (a_eql (gN rfl) rfl rfl rfl rfl rfl rfl) rfl ?_)
    show AWp _ _ _ _ _ _ _
    refine AWp.wk (wk_sub (s' := (0, AV.bp 350001 0 []) :: (4, .val (intsV hs)) :: (5, .own (intsV o1) 200082) :: (200082, .tok 3 1) :: (8, .val (.i (i : Int))) :: (10, .val (.i (to : Int))) :: (11, .val (.i ((fr + e : Nat) : Int))) :: (12, .val (.i (r2.2 : Int))) :: (78, .val (.b (decide (y.us - 1 = 0)))) :: cstF ⟨ns2, c2.vr, c2.ps⟩) ⟨rfl, rfl, rfl, rfl, rfl, rfl, rfl, rfl, rfl, rfl, rfl, rfl, rfl, rfl, rfl, rfl, trivial⟩) ?_
    refine aC rfl (fun h0 => ?_) (fun h0 => ?_)
    · have h0 : y.us - 1 = 0 := by simpa using h0
      rw [if_pos h0] at hd1
      refine aR ?_
      (refine nx (aM (gN rfl) rfl rfl rfl rfl rfl) rfl ?_)
      (refine nx (aM (gN rfl) rfl rfl rfl rfl rfl) rfl ?_)
      (refine nx (a_bslice (gN rfl) rfl rfl rfl rfl rfl rfl rfl rfl rfl rfl rfl rfl rfl) rfl ?_)
      (refine nx (a_app (gN rfl) rfl rfl rfl rfl rfl rfl rfl rfl rfl rfl rfl rfl rfl rfl rfl (by first | assumption | exact sZ rfl | exact Tm.size_all _ | exact Bd.size_all _ | exact ints_size _ | exact bys_size _ | exact Lt.size_all _) (by first | assumption | exact sZ rfl | exact Tm.size_all _ | exact Bd.size_all _ | exact ints_size _ | exact bys_size _ | exact Lt.size_all _) (by first | omega | (simp only [List.length_map, List.length_append, List.length_cons, List.length_nil] <;> omega) | (simp <;> omega))) (by kernel_rfl) ?_)
      (refine nx (aA (gN rfl) rfl rfl rfl rfl rfl) rfl ?_)
      show AWp _ _ _ _ _ _ _
      refine aR ?_
      (refine nx (aM (gN rfl) rfl rfl rfl rfl rfl) rfl ?_)
      (refine nx (a_add (gN rfl) rfl rfl rfl rfl rfl rfl (by first | omega | (simp only [List.length_map, List.length_append, List.length_cons, List.length_nil] <;> omega) | (simp <;> omega))) rfl ?_)
      (refine nx (aA (gN rfl) rfl rfl rfl rfl rfl) rfl ?_)
      refine ⟨m, (0, AV.bp 350001 0 []) :: (4, .val (intsV hs)) :: (5, .own (intsV (o1 ++ [r2.2])) 200082) :: (200082, .tok 3 1) :: (8, .val (.i (i : Int))) :: (10, .val (.i (to : Int))) :: (11, .val (.i ((fr + (e + 1) : Nat) : Int))) :: cstF ⟨ns2, c2.vr, c2.ps⟩, by omega, ⟨e + 1, ns2, o1 ++ [r2.2], by omega, by rw [← Nat.add_assoc]; exact hd1, hF5, by omega, hb5.mono (by omega), fun h hm => by
        rcases List.mem_append.1 hm with hm | hm
        · exact ho3 h hm
        · rw [List.mem_singleton] at hm; omega, by rw [List.length_append]; omega, rfl⟩, (wk_sub (s' := (0, AV.bp 350001 0 []) :: (4, .val (intsV hs)) :: (5, .own (intsV (o1 ++ [r2.2])) 300082) :: (300082, .tok 3 1) :: (8, .val (.i (i : Int))) :: (10, .val (.i (to : Int))) :: (11, .val (.i ((fr + (e + 1) : Nat) : Int))) :: cstF ⟨ns2, c2.vr, c2.ps⟩) ⟨rfl, rfl, ?_, rfl, rfl, rfl, rfl, rfl, rfl, rfl, rfl, rfl, rfl, rfl, trivial⟩).trans (wk_ren 300082 200082 rfl rfl (by kernel_rfl) (by kernel_rfl))⟩
      show _ = some (AV.own (.lst ((o1 ++ [r2.2]).map fun n : Nat => CV.i (n : Int))) 300082)
      rw [List.map_append]; rfl
    · have h0 : ¬ y.us - 1 = 0 := by simpa using h0
      rw [if_neg h0] at hd1
      refine aK ?_
      show AWp _ _ _ _ _ _ _
      refine aR ?_
      (refine nx (aM (gN rfl) rfl rfl rfl rfl rfl) rfl ?_)
      (refine nx (a_add (gN rfl) rfl rfl rfl rfl rfl rfl (by first | omega | (simp only [List.length_map, List.length_append, List.length_cons, List.length_nil] <;> omega) | (simp <;> omega))) rfl ?_)
      (refine nx (aA (gN rfl) rfl rfl rfl rfl rfl) rfl ?_)
      exact ⟨m, (0, AV.bp 350001 0 []) :: (4, .val (intsV hs)) :: (5, .own (intsV o1) 200082) :: (200082, .tok 3 1) :: (8, .val (.i (i : Int))) :: (10, .val (.i (to : Int))) :: (11, .val (.i ((fr + (e + 1) : Nat) : Int))) :: cstF ⟨ns2, c2.vr, c2.ps⟩, by omega, ⟨e + 1, ns2, o1, by omega, by rw [← Nat.add_assoc]; exact hd1, hF5, by omega, hb5.mono (by omega), ho3, hi3, rfl⟩, wk_sub ⟨rfl, rfl, rfl, rfl, rfl, rfl, rfl, rfl, rfl, rfl, rfl, rfl, rfl, rfl, trivial⟩⟩
theorem nodup_le : ∀ (N : Nat) {l : List Nat}, l.Nodup → (∀ x ∈ l, x < N) → l.length ≤ N
  | 0, l, _, h => by
    cases l with
    | nil => simp
    | cons a l => exact absurd (h a (by simp)) (by omega)
  | N + 1, l, hn, h => by
    have h1 : (l.filter fun x => decide (x ≠ N)).length ≤ N := nodup_le N (List.Pairwise.filter _ hn) fun x hx => by
      obtain ⟨h2, h3⟩ := List.mem_filter.1 hx
      have := h x h2
      have : x ≠ N := by simpa using h3
      omega
    have h2 : l.length ≤ (l.filter fun x => decide (x ≠ N)).length + 1 := by
      clear h h1
      induction l with
      | nil => simp
      | cons a l ih =>
        rw [List.nodup_cons] at hn
        by_cases e : a = N
        · subst e
          rw [List.filter_cons, if_neg (by simp), List.length_cons]
          have : l.filter (fun x => decide (x ≠ a)) = l := List.filter_eq_self.2 fun x hx => by
            simp only [ne_eq, decide_eq_true_eq]
            exact fun e => hn.1 (e ▸ hx)
          rw [this]
          omega
        · rw [List.filter_cons, if_pos (by simpa using e), List.length_cons, List.length_cons]
          have := ih hn.2
          omega
    omega
theorem runC_inv : ∀ (k : Nat) {c : Cl} {q} {E} {M : Nat}, runC k c = some q → Inv c E M → q.2 = true → Inv q.1 E M ∧ q.1.ps = []
  | 0, _, _, _, _, e, _, _ => by cases e
  | k + 1, c, q, E, M, e, h, hq => by
    rw [runC] at e
    cases hg : c.ps.getLast? with
    | none => rw [hg] at e; cases e; exact ⟨h, List.getLast?_eq_none_iff.1 hg⟩
    | some p =>
      rw [hg] at e
      simp only at e
      cases hj : joinC k ⟨c.ns, c.vr, c.ps.dropLast⟩ p.1 p.2 with
      | none => rw [hj] at e; cases e
      | some qq =>
        rw [hj] at e
        simp only at e
        split at e
        · rename_i h2; exact runC_inv k e ((h.join hg hj).2 h2) hq
        · rename_i h2; cases e; exact absurd hq h2
theorem joinAllC_inv {k : Nat} : ∀ (l : List (Tm × Tm)) {c : Cl} {q} {E}, joinAllC k l c = some q → Inv c E 2000001 → c.ps = [] → (∀ p ∈ l, (p.1.rng ∧ p.1.ok) ∧ (p.2.rng ∧ p.2.ok)) → pw c.ns + plcS l ≤ 1000 → q.2 = true → ∃ E', Inv q.1 E' 2000001
  | [], c, q, E, e, h, _, _, _, _ => by cases e; exact ⟨E, h⟩
  | p :: l, c, q, E, e, h, hps, hl, hb, hq => by
    have hb : pw c.ns + (p.1.size + p.2.size + plcS l) ≤ 1000 := hb
    rw [joinAllC] at e
    cases hr : runC k (openC c p) with
    | none => rw [hr] at e; cases e
    | some qr =>
      rw [hr] at e
      simp only at e
      obtain ⟨h1, h2⟩ := hl p (by simp)
      have hI := h.opn hps h1 h2 (by omega)
      split at e
      · rename_i h3
        obtain ⟨g1, g2⟩ := runC_inv k hr hI h3
        have hp := pw_run k hr
        rw [pw_open] at hp
        exact joinAllC_inv l e g1 g2 (fun x hx => hl x (List.mem_cons_of_mem _ hx)) (by omega) hq
      · rename_i h3; cases e; exact absurd hq h3
theorem ordC_fit {k : Nat} : ∀ (j i : Nat) {c : Cl} {o : List Nat} {q}, ordC k j i c o = some q → FitU c → (∀ h ∈ o, h < c.ns.length) → ∀ {B : Int}, 0 ≤ B → usB c.ns B → FitU q.1
  | 0, _, _, _, _, e, _, _, _, _, _ => by cases e
  | j + 1, i, c, o, q, e, hF, ho, B, hB, hu => by
    rw [ordC] at e
    cases hi : o[i]? with
    | none => rw [hi] at e; cases e; exact hF
    | some g =>
      rw [hi] at e
      simp only at e
      have hg := ho g (List.mem_of_getElem? hi)
      have hp := hF.parts hg
      have hsn := snd_le hF.kid hg
      cases hd : downC k (List.range' (pC c g).2.1 ((pC c g).2.2 - (pC c g).2.1)) (pC c g).1.ns o with
      | none => rw [hd] at e; cases e
      | some qd =>
        rw [hd] at e
        simp only at e
        have hge : c.ns.length ≤ (pC c g).1.ns.length := parts_len
        obtain ⟨g1, g2, g3, g4, g5⟩ := downC_keep (vr := (pC c g).1.vr) (ps := (pC c g).1.ps) _ hd hp (fun p hp2 => by rw [List.mem_range'_1] at hp2; omega) (hu.parts hB g) (fun x hx => by have := ho x hx; omega)
        exact ordC_fit j (i + 1) e g1 (fun x hx => by show x < qd.1.length; rw [g2]; exact g5 x hx) (by omega) g3
theorem findB_vr (vr : List (Int × Nat)) (f : Nat → Tm) (v : Int) : findB (vr.map fun p => ⟨p.1, f p.2⟩) v = (lookV vr v).map f := by
  induction vr with
  | nil => rfl
  | cons p l ih =>
    rw [List.map_cons, findB, lookV]
    split
    · rfl
    · exact ih
noncomputable def canB (a b : Tm) : Bool := @decide (∃ τ, uni τ [(a, b)]) (Classical.propDecidable _)
theorem canB_iff {a b : Tm} : canB a b = true ↔ ∃ τ, uni τ [(a, b)] := by
  unfold canB
  exact @decide_eq_true_iff _ (Classical.propDecidable _)
theorem canB_no {a b : Tm} (h : ∀ τ, ¬ uni τ [(a, b)]) : canB a b = false := by
  cases e : canB a b with
  | false => rfl
  | true => obtain ⟨τ, ht⟩ := canB_iff.1 e; exact absurd ht (h τ)
-- 
set_option maxHeartbeats 2000000 in
theorem uCan_abs (W : World) (a b : Tm) (ha : a.rng) (hao : a.ok) (hb : b.rng) (hbo : b.ok) (hs : a.size + b.size ≤ 1000) : AFun Try.prog W 24 [a.cw, b.cw] (.val (.b (canB a b))) := by
  obtain ⟨k, j, e1, f1, f2⟩ := pairs_spec [(a, b)]
  have hj := e1 k (Nat.le_refl _)
  have hl : ∀ p ∈ [(a, b)], (p.1.rng ∧ p.1.ok) ∧ (p.2.rng ∧ p.2.ok) := fun p hp => by
    rw [List.mem_singleton] at hp
    rw [hp]
    exact ⟨⟨ha, hao⟩, hb, hbo⟩
  have hpl : plcS [(a, b)] ≤ 1000 := by unfold plcS; simpa using hs
  have hja := uJoinAll_abs k [(a, b)] j hj hl hpl
  refine afun_of (rs := [.b (canB a b)]) Try.func24 Try.ntmps24 rfl rfl rfl rfl ?_
  intro w U hW
  refine aS (aR ?_)
  (refine nx (a_box (gN rfl) rfl rfl rfl rfl rfl) rfl ?_)
  (refine nx (a_box (gN rfl) rfl rfl rfl rfl rfl) rfl ?_)
  (refine nx (aA (gN rfl) rfl rfl rfl rfl rfl) rfl ?_)
  show AWp _ _ _ _ _ _ _
  refine aS (aR ?_)
  (refine nx (a_callO (gN rfl) rfl rfl rfl rfl rfl (newC_abs) (by repeat (first | exact trivial | refine ⟨rfl, ?_⟩)) rfl rfl rfl rfl (fun k v h => by first | (rw [hW.1] at h; cases h) | (have h2 := hU k v h; cases h2))) rfl ?_)
  (refine nx (aA (gN rfl) rfl rfl rfl rfl rfl) rfl ?_)
  show AWp _ _ _ _ _ _ _
  refine aS (aS (aR ?_))
  (refine nx (aM (gN rfl) rfl rfl rfl rfl rfl) rfl ?_)
  (refine nx (aL (gN rfl) rfl rfl rfl rfl rfl rfl rfl rfl rfl rfl rfl rfl) rfl ?_)
  (refine nx (aL (gN rfl) rfl rfl rfl rfl rfl rfl rfl rfl rfl rfl rfl rfl) rfl ?_)
  (refine nx (a_buildA [2, 2] (gN rfl) rfl rfl rfl rfl rfl rfl rfl rfl rfl rfl rfl rfl) rfl ?_)
  (refine nx (a_bslice (gN rfl) rfl rfl rfl rfl rfl rfl rfl rfl rfl rfl rfl rfl rfl) rfl ?_)
  (refine nx (a_callO (gN rfl) rfl rfl rfl rfl rfl (hja) (by repeat (first | exact trivial | refine ⟨rfl, ?_⟩)) (by first | rfl | kernel_rfl) (by first | rfl | kernel_rfl) (by first | rfl | kernel_rfl) (by first | rfl | kernel_rfl) (hnb_of (by first | rfl | kernel_rfl))) rfl ?_)
  (refine nx (a_not (gN rfl) rfl rfl rfl rfl rfl) rfl ?_)
  show AWp _ _ _ _ _ _ _
  cases hj2 : j.2 with
  | false =>
    have hno : canB a b = false := canB_no (f1 hj2)
    rw [hno]
    refine aC rfl (fun hc => ?_) (fun hc => by cases hc)
    refine aS (aR ?_)
    (refine nx (aA (gN rfl) rfl rfl rfl rfl rfl) rfl ?_)
    show AWp _ _ _ _ _ _ _
    exact aT (And.intro (.inr rfl) rfl)
  | true =>
    obtain ⟨cn, od, H, r, e2, g1, g2, g3, ki, hcn, n1, n2⟩ := f2 hj2
    obtain ⟨e3, e4⟩ := e2 k (Nat.le_refl _)
    obtain ⟨E', hI⟩ := joinAllC_inv [(a, b)] hj (E := []) ⟨⟨id, id, Cls.nil, by show 0 + sumTo _ 0 ≤ _; simp [sumTo]⟩, (fun x hx => by cases hx), by show sumTo _ 0 ≤ _; simp [sumTo]⟩ rfl hl (by show sumTo _ 0 + _ ≤ _; simpa [sumTo] using hpl) hj2
    have hF := hI.fitU
    have hu0 : usB j.1.ns 0 := fun m => by rw [nS_all hj]; exact ⟨Int.le_refl _, Int.le_refl _⟩
    obtain ⟨hF1, hu1, hh1, hhl⟩ := countC_keep k 0 e3 hF (by simpa using hu0) (by omega) (fun h hm => by cases hm) (Nat.le_refl _)
    have hF2 := ordC_fit k 0 e4 hF1 (fun h hm => hh1 h (List.mem_filter.1 hm).1) (by decide) hu1
    have hol : od.2.length ≤ 1000 := Nat.le_trans (nodup_le _ ki.nd fun x hx => (ki.hd x hx).1) (Nat.le_trans (len_pw _) hF2.big)
    have hor := uOrd_abs k j.1 cn od e3 e4 hF hu0 hol
    have hcan : canB a b = decide ((od.2.length : Int) = cn.2.length) := by
      by_cases h : od.2.length = cn.2.length
      · have h9 : decide ((od.2.length : Int) = cn.2.length) = true := by rw [h]; simp
        rw [h9, canB_iff]
        obtain ⟨k1, tm, _, _, _, _, hm⟩ := n2 h
        have := hm (od.1.vr.map fun p => ⟨p.1, tm.2.getD (H p.2) tm0⟩) fun v => findB_vr _ (fun m => tm.2.getD (H m) tm0) v
        exact ⟨_, this.uni⟩
      · have h9 : decide ((od.2.length : Int) = cn.2.length) = false := by
          rw [decide_eq_false_iff_not]
          omega
        rw [h9]
        exact canB_no (n1 h)
    rw [hcan]
    refine aC rfl (fun hc => by cases hc) (fun hc => aK ?_)
    show AWp _ _ _ _ _ _ _
    refine aS (aR ?_)
    (refine nx (aM (gN rfl) rfl rfl rfl rfl rfl) rfl ?_)
    (refine nx (a_callO (gN rfl) rfl rfl rfl rfl rfl (hor) (by repeat (first | exact trivial | refine ⟨rfl, ?_⟩)) (by first | rfl | kernel_rfl) (by first | rfl | kernel_rfl) (by first | rfl | kernel_rfl) (by first | rfl | kernel_rfl) (hnb_of (by first | rfl | kernel_rfl))) rfl ?_)
    (refine nx (aM (gN rfl) rfl rfl rfl rfl rfl) rfl ?_)
    (refine nx (aX (gN rfl) rfl rfl rfl rfl rfl rfl) rfl ?_)
    (refine nx (aX (gN rfl) rfl rfl rfl rfl rfl rfl) rfl ?_)
    (refine nx (aA (gN rfl) rfl rfl rfl rfl rfl) rfl ?_)
    (refine nx (aA (gN rfl) rfl rfl rfl rfl rfl) rfl ?_)
    show AWp _ _ _ _ _ _ _
    refine aS (aR ?_)
    (refine nx (aM (gN rfl) rfl rfl rfl rfl rfl) rfl ?_)
    (refine nx (aA (gN rfl) rfl rfl rfl rfl rfl) rfl ?_)
    show AWp _ _ _ _ _ _ _
    exact aT (And.intro (.inr rfl) rfl)
end Go.Proofs.Ytiammidklcjelab
namespace Go.Proofs.Ytiammidklcjelab
open Go.RowKit
set_option linter.unusedVariables false
set_option linter.unusedSimpArgs false
section
variable {P : Program} {w0 : World} {U0 : UX} {nt : Nat} {ops : Array Oper} {o : Oper} {S : Nat → Option AV} {gs : List Nat} {d : Nat} {s : AS} {a : Act} {w : World} {D : Nat → Nat → Prop} {hv : Nat → Value}
theorem SimG.forget (h : SimG w0 U0 nt s a w D hv) {d : Nat} (h5 : d < 100000) (hd : d < nt) : SimG w0 U0 nt ((d, .no) :: s) a w D hv := by
  have hdn : d < a.tmps.size := by rw [h.size]; exact hd
  exact h.know h5 (Array.getElem?_eq_getElem hdn) trivial
def noL (ds : List Nat) : AS := ds.map fun d => (d, AV.no)
theorem SimG.forgets : ∀ {ds : List Nat}, SimG w0 U0 nt s a w D hv → (∀ d ∈ ds, d < 100000 ∧ d < nt) → SimG w0 U0 nt (noL ds ++ s) a w D hv
  | [], h, _ => h
  | d :: ds, h, hd => (SimG.forgets h fun x hx => hd x (List.mem_cons_of_mem _ hx)).forget (hd d (by simp)).1 (hd d (by simp)).2
theorem look_noL : ∀ {ds : List Nat} {k : Nat} {av : AV}, look (noL ds ++ s) k = some av → (k ∈ ds ∧ av = .no) ∨ (hasN ds k = false ∧ look s k = some av)
  | [], k, av, h => .inr ⟨rfl, h⟩
  | d :: ds, k, av, h => by
    have h : look ((d, AV.no) :: (noL ds ++ s)) k = some av := h
    rw [look_cons] at h
    split at h
    · rename_i e; cases h; exact .inl ⟨by rw [e]; simp, rfl⟩
    · rename_i e
      rcases look_noL h with ⟨h1, h2⟩ | ⟨h1, h2⟩
      · exact .inl ⟨List.mem_cons_of_mem _ h1, h2⟩
      · refine .inr ⟨?_, h2⟩
        show (Nat.beq d k || hasN ds k) = false
        rw [h1, Bool.or_false]
        cases e2 : Nat.beq d k with
        | false => rfl
        | true => exact absurd (Nat.eq_of_beq_eq_true e2) e
theorem a_callOD (ds : List Nat) {f : FuncId} {xs : Array Operand} {ts : Array TypeId} {avs : List AV} {r : AV} {pre post : AS} (hg : Gd w0 U0 nt ops o gs S) (hd : o.dst = some d) (hn : Nat.blt d nt = true) (h5 : Nat.blt d 100000 = true)
    (ho : o.op = .call { callee := .value (.func f), args := xs, argTypes := ts }) (hx : evsA S xs.toList = some avs) (hc : AFunO P f pre avs r post) (hp : SubS S pre) (hl : pre.all lendB = true) (hq : post.all (leaveB (kO post)) = true) (hks : (kO pre).all (hasN (kO post)) = true) (hr : refB (kO post) r = true) (hnb : ∀ k v, U0.f k = some v → hasN (kO post) k = true → hasN (kO pre) k = true) (hds : (ds.all fun x => Nat.blt x nt && Nat.blt x 100000) = true) (hpk : (kO pre).all (Nat.ble 100000) = true) (hnm : ((newN (kO pre) (kO post) (kO post)).all fun q => !Nat.beq q.1 0 && (!Nat.beq q.1 100000 && !Nat.beq q.1 1100000)) = true) :
    AOp P w0 U0 nt ops o (gs ++ (rdl xs.toList ++ kO pre)) ((newN (kO pre) (kO post) (kO post)).map fun q => (q.1, ds ++ q.2)) S ((d, r) :: (post ++ noL ds)) := by
  intro s hs hN a w ⟨D, hv, h⟩ Q K hK
  rw [if_pos (hg s (fun k hk => hs k (List.mem_append_left _ hk)) a w D hv h)]
  have hargs := evsA_rep h (fun k hk => hs k (List.mem_append_right _ (List.mem_append_left _ hk))) hx
  have hsub : Sub s pre := fun k av h1 => (hs k (List.mem_append_right _ (List.mem_append_right _ (mem_keys h1)))).trans (hp.look h1)
  obtain ⟨V, v1, v2, v3, v4, v5, v6⟩ := h.lend hsub hl
  obtain ⟨h1, h2⟩ := hc
  have hcall := h2 V w hv ⟨#[], []⟩ _ v1 v2 (hargs.imp fun c _ v hcv => hcv.move v6 (fun _ h3 => h3.imp id fun ⟨e, he⟩ => ⟨e, hsub _ _ he.1, he.2⟩) fun _ => rfl)
  have he : (execOp a.eval o).run P w = .ok (.enter f (xs.toList.map a.eval).toArray) w := by
    have hf : a.eval (.func f) = .func (.func f) #[] #[] := rfl
    have hen := h1 (xs.map a.eval) w
    have harr : (xs.toList.map a.eval).toArray = xs.map a.eval := by apply Array.ext'; simp
    rw [harr]
    generalize a.eval = ρ at hf hen ⊢
    simp [execOp, ho, resolve, invoke, Deferred.ofValue, hf, hen]
  rw [List.all_eq_true] at hds hpk hnm
  have hdl : ∀ x ∈ ds, x < 100000 ∧ x < nt := fun x hx => by
    have := hds x hx
    rw [Bool.and_eq_true] at this
    exact ⟨bL this.2, bL this.1⟩
  have h' := h.forgets hdl
  have hsub' : Sub (noL ds ++ s) pre := fun k av h3 => by
    have hk := Nat.le_of_ble_eq_true (hpk k (mem_keys h3))
    have h4 := hsub k av h3
    rw [look_append]
    cases e : look (noL ds) k with
    | none => exact h4
    | some y =>
      have h9 : look (noL ds ++ []) k = some y := by rw [List.append_nil]; exact e
      rcases look_noL h9 with ⟨h6, _⟩ | ⟨_, h6⟩
      · have := (hdl k h6).1; omega
      · cases h6
  have hN' : ∀ q ∈ newN (kO pre) (kO post) (kO post), NoRefE (noL ds ++ s) q := fun q hq k av h3 h4 => by
    have h6 := hnm q hq
    simp only [Bool.and_eq_true, Bool.not_eq_true'] at h6
    have hne : ∀ {x : Nat}, Nat.beq q.1 x = false → x ≠ q.1 := fun {x} hx e => by rw [← e, Nat.beq_refl] at hx; cases hx
    rcases look_noL h3 with ⟨h7, rfl⟩ | ⟨h7, h8⟩
    · have hk := (hdl k h7).1
      have hfn : fnm k = 100000 := by unfold fnm; rw [ble_no (by omega : k < 500000)]
      rw [hfn]
      exact ⟨hne h6.1, hne h6.2.1, hne h6.2.2⟩
    · refine hN (q.1, ds ++ q.2) (List.mem_map.2 ⟨q, hq, rfl⟩) k av h8 ?_
      show hasN (ds ++ q.2) k = false
      unfold hasN at h7 h4 ⊢
      rw [List.any_append, h7, h4]
      rfl
  unfold Oper.wp
  rw [he, Oper.upon_enter]
  refine hcall.mono ?_
  rintro e w' ⟨v, D', hv', a', rfl, h6, h7⟩
  rw [hd]
  obtain ⟨D2, hv2, h8, h9⟩ := h'.back hsub' hl hq hks hN' hnb v3 v4 v5 v2 h6
  have hfin := h8.put (d := d) (bL hn) (bL h5) (h9.1 r v hr h7)
  refine hK _ _ ⟨D2, hv2, ?_⟩
  show SimG w0 U0 nt ((d, r) :: ((post ++ noL ds) ++ s)) _ _ _ _
  rw [List.append_assoc]
  exact hfin
end
end Go.Proofs.Ytiammidklcjelab
namespace Go.Proofs.Ytiammidklcjelab
open Go.RowKit Go.MapKept
set_option linter.unusedVariables false
set_option linter.unusedSimpArgs false
section
variable {P : Program} {w0 : World} {U0 : UX} {nt : Nat} {ops : Array Oper} {o : Oper} {S : Nat → Option AV} {gs : List Nat} {d : Nat} {s : AS} {a : Act} {w : World} {D : Nat → Nat → Prop} {hv : Nat → Value}

theorem live_two2 {x y : AV} {k m n : Nat} {e : Nat × Nat} (hk : k < 200000) (hm : m < 200000 ∨ 400000 ≤ m) : Live ((k, x) :: (m, y) :: s) n e ↔ Live s n e := by
  unfold Live
  constructor
  · rintro ⟨h1, h2⟩
    rw [lN (by omega), lN (by omega)] at h1
    exact ⟨h1, h2⟩
  · rintro ⟨h1, h2⟩
    exact ⟨by rw [lN (by omega), lN (by omega)]; exact h1, h2⟩
theorem hk_ne_boxN {lv : Nat → Prop} {a : AV} {d : Nat} (hd : BN d) (hlv : ∀ n, lv n → n = 1 ∨ RN n) (hr : a.n ≠ d) (h : Rn lv a) : hk a ≠ 100000 + d := by
  unfold BN at hd
  rcases h with ⟨h1, h2, h3⟩ | ⟨h1, h2⟩ | ⟨h1, h2⟩
  · rw [hk_eq.2 (by omega)]
    rcases hlv _ h2 with h4 | h4
    · exact absurd h4 h3
    · unfold RN at h4; omega
  · rw [hk_eq.1 h1]; omega
  · rw [hk_eq.2 (by omega)]; unfold RN at h2; omega
theorem SimG.newboxN (h : SimG w0 U0 nt s a w D hv) {nn : Nat} (hbn : BN nn) (hnf : ∀ v, U0.f (100000 + nn) = some v → False) (hr : NoRef s nn) (hd : d < nt) (h5 : d < 100000) {av : AV} (hav : av.t = 5 ∨ av = .obj) {xs : List Value} (ty : TypeId) (hrep : av.t = 5 → Rep (Us w0 U0 D) w av.c xs) (htk : av.t = 5 → Tk hv (LiveN s) av xs) :
    SimG w0 U0 nt ((d, .bp nn 0 []) :: (100000 + nn, av) :: s) (a.put (some d) (.pointer (some ⟨w.heap.size, 0, none⟩))) (w.alloc (.cells xs.toArray ty)) D (fun k => if k = 100000 + nn then .pointer (some ⟨w.heap.size, 0, none⟩) else hv k) := by
  have hbn1 := hbn
  unfold BN at hbn1
  have hb' : Below w.heap.size w (w.alloc (.cells xs.toArray ty)) := (Below.refl _ _).alloc (Nat.le_refl _) _
  have hG := h.grow' hb'
  obtain ⟨s', hs'⟩ : ∃ s', s' = (d, AV.bp nn 0 []) :: (100000 + nn, av) :: s := ⟨_, rfl⟩
  obtain ⟨hv', hhv⟩ : ∃ hv' : Nat → Value, hv' = fun k => if k = 100000 + nn then .pointer (some ⟨w.heap.size, 0, none⟩) else hv k := ⟨_, rfl⟩
  rw [← hs', ← hhv]
  have hl : ∀ n e, Live s' n e ↔ Live s n e := fun n e => by rw [hs']; exact live_two2 (by omega) (by unfold BN at hbn; omega)
  have hl2 : LiveN s' = LiveN s := by funext n; simp only [LiveN, hl]
  have hlk : ∀ k, k ≠ d → k ≠ 100000 + nn → look s' k = look s k := fun k h1 h2 => by rw [hs', lN (Ne.symm h1), lN (Ne.symm h2)]
  have hlb : look s' (100000 + nn) = some av := by rw [hs', lN (by omega), lS]
  have hvn : ∀ k, k ≠ 100000 + nn → hv' k = hv k := fun k hk => by rw [hhv]; simp only [if_neg hk]
  have hvd : hv' (100000 + nn) = .pointer (some ⟨w.heap.size, 0, none⟩) := by rw [hhv]; simp
  have hid : ∀ b o v, Us w0 U0 D b o → (w.alloc (.cells xs.toArray ty)).cell? ⟨b, o, none⟩ = some v → Us w0 U0 D b o ∧ (w.alloc (.cells xs.toArray ty)).cell? ⟨b, o, none⟩ = some v := fun _ _ _ h1 h2 => ⟨h1, h2⟩
  have hmv : ∀ {k av' v}, look s k = some av' → AVRep (Us w0 U0 D) (w.alloc (.cells xs.toArray ty)) hv (LiveN s) av' v → AVRep (Us w0 U0 D) (w.alloc (.cells xs.toArray ty)) hv' (LiveN s) av' v := fun {k av' v} h1 h2 =>
    h2.move hid (fun _ h => h) fun h3 => hvn _ (hk_ne_boxN hbn (fun n => liveN_rn) (hr k av' h1).1 h3)
  refine ⟨hG.below, h.dfr, by simp [Act.put, h.size], fun d' av' h1 h2 => ?_, fun n o av' h1 h2 h3 h10 => ?_, fun n o o' av1 av2 h1 h2 h3 h4 => ?_, fun k av' h1 h2 => ?_, fun k av' g h1 h2 h3 h4 => ?_, fun k k' av1 av2 g h1 h2 h3 h4 h6 h7 hne => ?_, fun n g h1 => ?_, hG.dlt⟩
  · rw [hl2]
    by_cases e : d = d'
    · subst e
      rw [hs', lS] at h1
      cases h1
      refine ⟨.pointer (some ⟨w.heap.size, 0, none⟩), by simp [Act.put, h.size, hd], ?_⟩
      unfold AVRep
      simp only [if_true]
      exact ⟨hbn, by rw [hvd]; rfl⟩
    · rw [hlk d' (Ne.symm e) (by omega)] at h1
      obtain ⟨v', h3, h4⟩ := hG.slot d' av' h1 h2
      exact ⟨v', by simp [Act.put, e, h3], hmv h1 h4⟩
  · rw [hlk _ (by unfold fKey; omega) (by unfold fKey; omega)] at h1
    have hn := (hr _ _ h1).2.1
    rw [fnm_key h2] at hn
    rw [hlk _ (by omega) (by omega)] at h3
    rw [hl2]
    obtain ⟨v, h4, h6, h7⟩ := hG.fld n o av' h1 h2 h3 h10
    refine ⟨v, hmv h1 h4, h6, ?_⟩
    rw [hvn _ (by omega)]
    exact h7
  · rw [hlk _ (by unfold fKey; omega) (by unfold fKey; omega)] at h1 h2
    exact h.fdis n o o' av1 av2 h1 h2 h3 h4
  · rw [hl2]
    by_cases e : k = 100000 + nn
    · subst e
      rw [hlb] at h1
      cases h1
      rw [hvd]
      unfold OC
      rcases hav with hav | rfl
      · rw [if_pos hav]
        refine ⟨w.heap.size, xs, ty, rfl, alloc_new _ _, (hrep hav).keep (us_keep h.dlt hb' fun _ _ h => h), fun hl => ?_⟩
        obtain ⟨m, c, g1, g2⟩ := htk hav hl
        refine ⟨m, c, g1, ?_⟩
        rw [g2]
        unfold tokv
        rcases liveN_rn hl with h6 | h6
        · rw [if_pos h6, if_pos h6]
        · unfold RN at h6
          rw [hvn _ (by omega)]
      · simp only [if_true]
        exact ⟨w.heap.size, xs.toArray, ty, rfl, alloc_new _ _⟩
    · have h2' := h2
      unfold oKey at h2'
      rw [hlk k (by omega) e] at h1
      rw [hvn k e]
      refine (hG.obj k av' h1 h2).move hid (fun _ hl => ⟨hl, ?_⟩) (fun _ _ => rfl)
      unfold tokv
      rcases liveN_rn hl with h6 | h6
      · rw [if_pos h6, if_pos h6]
      · unfold RN at h6
        rw [hvn _ (by omega)]
  · by_cases e : k = 100000 + nn
    · subst e
      rw [hvd] at h4
      have h4 : some w.heap.size = some g := h4
      cases h4
      refine ⟨.inl h.below.size, by simp, fun o _ hd => ?_⟩
      have := h.dlt _ _ hd
      omega
    · have h2' := h2
      unfold oKey at h2'
      rw [hlk k (by omega) e] at h1
      rw [hvn k e] at h4 ⊢
      exact hG.blk k av' g h1 h2 h3 h4
  · have h3' := h3
    have h4' := h4
    unfold oKey at h3' h4'
    by_cases e1 : k = 100000 + nn
    · have e2 : k' ≠ 100000 + nn := fun e => hne (e1.trans e.symm)
      rw [hlk k' (by omega) e2] at h2
      rw [e1, hvd, hvn k' e2]
      intro h8 h9
      have := (h.blk k' av2 g h2 h4 h7 h9).2.1
      have h8 : some w.heap.size = some g := h8
      cases h8
      omega
    · rw [hlk k (by omega) e1] at h1
      by_cases e2 : k' = 100000 + nn
      · rw [e2, hvd, hvn k e1]
        intro h8 h9
        have := (h.blk k av1 g h1 h3 h6 h8).2.1
        have h9 : some w.heap.size = some g := h9
        cases h9
        omega
      · rw [hlk k' (by omega) e2] at h2
        rw [hvn k e1, hvn k' e2]
        exact h.disj k k' av1 av2 g h1 h2 h3 h4 h6 h7 hne
  · have := U0.hf n g h1
    rw [hvn _ (fun e => hnf g (by rw [← e]; exact h1))]
    exact h.fix n g h1

end
def collPostL (L D : Nat) (Kp : World → World → Prop) (I : World → Prop) (W : World) : Exit → Act → World → Prop
  | .normal, _, W' => W'.heap[L]? = W.heap[L]? ∧ W'.heap[D]? = W.heap[D]? ∧ Kp W W' ∧ I W'
  | _, _, _ => False

section
variable {α : Type} {P : Program}

theorem wp_rangeL {g : Operand} {ps : Array Tmp} {assign body : Code} {Q : Exit → Act → World → Prop} {a : Act} {w : World} {gf : Nat} {lb : Array Value}
    (hg : a.eval g = .func (.func gf) #[] lb) (eg : ∀ args w, (callFunc gf args).run P w = .ok (.enter gf args) w)
    {encs : α → Array Value} {Ok : List α → α → Prop} {Kp : World → World → Prop} {S : List α → Prop} (hseq : Gives P gf lb encs (fun pre x _ => Ok pre x) Kp S w)
    (hKt : ∀ {A B C : World}, Kp A B → Kp B C → Kp A C)
    (hKb : ∀ (W : World) (l : Nat) (o' : Obj), w.heap.size ≤ l → Kp W (W.putObj l o'))
    (hps : ∀ x, (encs x).size = ps.size) (I : List α → World → Prop) (hI : ∀ pre A B, I pre A → Below A.heap.size A B → I pre B)
    (hIp : ∀ (pre : List α) (A : World) (r r' : Loop), I pre A → A.heap[w.heap.size + 1]? = some (.loop r) → I pre (A.putObj (w.heap.size + 1) (.loop r')))
    (h0 : ∀ r : Loop, I [] ((w.alloc (.deferred (some []))).alloc (.loop r))) (a₁ : α → Act)
    (hassign : ∀ (x : α) (W : World) (K : Act → World → Prop), K (a₁ x) W →
      assign.wpIn (Fence.wide.inRound (w.heap.size + 1)) 1 P (Exit.then K (fun _ _ _ => False)) { tmps := (ps.zip (encs x)).foldl (fun t (p, v) => t.setIfInBounds p v) a.tmps, defers := [] } W)
    (hbody : ∀ (pre : List α) (x : α) (W : World), I pre W → Ok pre x → w.heap.size + 2 ≤ W.heap.size → body.wpIn (Fence.wide.inRound (w.heap.size + 1)) 1 P (collPostL (w.heap.size + 1) w.heap.size Kp (I (pre ++ [x])) W) (a₁ x) W)
    (hdone : ∀ (xs : List α) (W : World), S xs → I xs W → W.heap[w.heap.size]? = some (.deferred (some [])) → Q .normal { a with defers := { target := .collected w.heap.size, args := #[] } :: a.defers } W) :
    (Code.rangeFunc g ps assign body).wpIn Fence.wide 3 P Q a w := by
  refine wpIn_rangeFunc fun fn hfn => ?_
  obtain ⟨D, hD⟩ : ∃ D, D = w.heap.size := ⟨_, rfl⟩
  rw [← hD] at hIp hassign hbody hdone hKb
  obtain ⟨W1, hW1⟩ : ∃ W1, W1 = (w.alloc (.deferred (some []))).alloc (.loop (recOf fn a.tmps ps assign body D .ready)) := ⟨_, rfl⟩
  have below1 : Below w.heap.size w W1 := by rw [hW1]; exact ((Below.refl _ w).alloc (Nat.le_refl _) _).alloc (by simp) _
  have atL : W1.heap[D + 1]? = some (.loop (recOf fn a.tmps ps assign body D .ready)) := by
    have := World.alloc_heap_new (w.alloc (.deferred (some []))) (.loop (recOf fn a.tmps ps assign body D .ready))
    rw [World.size_alloc, ← hD, ← hW1] at this
    exact this
  have atD : W1.heap[D]? = some (.deferred (some [])) := by
    have h := World.alloc_heap_new w (.deferred (some []))
    rw [← hD] at h
    rw [hW1, Below.heap_alloc _ _ _ (by simp; omega)]
    exact h
  refine ⟨D + 1, [{ target := .collected D, args := #[] }], W1, { target := .fn (.func gf) lb, args := #[.func (.yield (D + 1)) #[] #[]] }, W1, gf, #[.func (.yield (D + 1)) #[] #[]] ++ lb, W1, ?_, ?_, fun _ _ => trivial, ?_, (fun _ => by omega), ?_⟩
  · rw [hW1, hD]; exact run_enterLoop_outer _ _ _ _ _
  · simp only [resolve, hg]
    simp [go_sem]
  · simp [invoke, go_sem, eg]
  refine (hseq (D + 1) (fun pre V => I pre V ∧ V.heap[D + 1]? = some (.loop (recOf fn a.tmps ps assign body D .ready)) ∧ V.heap[D]? = some (.deferred (some []))) W1 below1 ?abides ?rounds ⟨by rw [hW1]; exact h0 _, atL, atD⟩).mono ?after
  case abides =>
    rintro pre A B ⟨h1, h2, h3⟩ hb
    exact ⟨hI _ _ _ h1 hb, (hb.block _ (Array.getElem?_eq_some_iff.1 h2).1).trans h2, (hb.block _ (Array.getElem?_eq_some_iff.1 h3).1).trans h3⟩
  case rounds =>
    rintro pre x V ⟨h1, h2, h3⟩ hx
    have hlt := (Array.getElem?_eq_some_iff.1 h2).1
    have hy := run_yield (P := P) (args := encs x) h2 (hps x)
    refine ⟨fn, _, assign, body, hy, roundIn_of_wpIn hfn (hassign x V _ ⟨_, run_beginRound h2 rfl, ?_⟩)⟩
    have b2 : (V.putObj (D + 1) (.loop (recOf fn a.tmps ps assign body D .busy))).heap[D + 1]? = some (.loop (recOf fn a.tmps ps assign body D .busy)) := World.putObj_heap_same hlt
    have b3 : (V.putObj (D + 1) (.loop (recOf fn a.tmps ps assign body D .busy))).heap[D]? = some (.deferred (some [])) := (World.putObj_heap_other (by omega)).trans h3
    refine wpIn_mono (hbody pre x (V.putObj (D + 1) (.loop (recOf fn a.tmps ps assign body D .busy))) (hIp _ _ _ _ h1 h2) hx (by rw [World.putObj_size]; omega)) ?_
    rintro e a3 U hp
    cases e with
    | normal =>
      obtain ⟨k0, k1, k2, k3⟩ := hp
      have u2 := k0.trans b2
      have u3 := k1.trans b3
      have hr := run_endRound (P := P) none u2
      refine ⟨_, _, hr, rfl, ⟨hIp _ _ _ _ k3 u2, World.putObj_heap_same (Array.getElem?_eq_some_iff.1 u2).1, (World.putObj_heap_other (by omega)).trans u3⟩, ?_⟩
      exact hKt (hKt (hKb _ _ _ (by omega)) k2) (hKb _ _ _ (by omega))
    | ret => exact hp.elim
    | exit _ => exact hp.elim
    | goto _ => exact hp.elim
    | panic _ => exact hp.elim
    | outgrown => exact hp.elim
  case after =>
    rintro e V ⟨⟨v, rfl⟩, xs, hS, h1, h2, h3⟩
    exact ⟨none, _, run_endLoop (P := P) h2 (by simp [recOf]), hdone xs _ hS (hIp _ _ _ _ h1 h2) ((World.putObj_heap_other (by omega)).trans h3)⟩
end

section
variable {P : Program} {w0 : World} {U0 : UX} {nt : Nat} {ops : Array Oper} {o : Oper} {S : Nat → Option AV} {gs : List Nat} {d : Nat} {s : AS} {a : Act} {w : World} {D : Nat → Nat → Prop} {hv : Nat → Value}

abbrev AV.ob (g o : Nat) : AV := ⟨20, .sc (.pointer (some ⟨g, 0, none⟩)), 0, o, []⟩
theorem SimG.newob (h : SimG w0 U0 nt s a w D hv) {n o : Nat} (hn : RW n) (hr : NoRef s n) {x : Obj} (hx : ∀ xs ty fl, x ≠ .cells xs ty fl) (ho : o = 0 → x = .deferred (some [])) : SimG w0 U0 nt ((n, .ob w.heap.size o) :: s) a (w.alloc x) D (fun k => if k = n then .pointer (some ⟨w.heap.size, 0, none⟩) else hv k) := by
  have hb' : Below w.heap.size w (w.alloc x) := (Below.refl _ _).alloc (Nat.le_refl _) _
  exact h.newrow (X := fun _ => False) (avn := .ob w.heap.size o) (v' := .pointer (some ⟨w.heap.size, 0, none⟩)) (D' := D) hn hr (fun e => by cases e) ((BelowX.refl _ w).step hb') (fun b hb => hb.elim) (fun g hg => by
      have hg : some w.heap.size = some g := hg
      cases hg
      refine ⟨.inr (Nat.le_refl _), by simp, fun o _ hd => ?_⟩
      have := h.dlt _ _ hd
      omega) (fun b o hd => .inl hd) (fun b o hd => Nat.lt_of_lt_of_le (h.dlt _ _ hd) hb'.size) (us_keep h.dlt hb' fun _ _ h => h) (fun hv lv => ⟨(fun e => by cases e), fun _ => ⟨rfl, w.heap.size, x, rfl, alloc_new _ _, hx, ho⟩, (fun e => by cases e), (fun e => by cases e)⟩)
theorem SimG.putob (h : SimG w0 U0 nt s a w D hv) {n o o' : Nat} (hn : RW n) {g : Nat} (hs : look s n = some (.ob g o)) {x : Obj} (hx : ∀ xs ty fl, x ≠ .cells xs ty fl) (ho : o' = 0 → x = .deferred (some [])) : SimG w0 U0 nt ((n, .ob g o') :: s) a (w.putObj g x) D hv ∧ g < w.heap.size ∧ hv n = .pointer (some ⟨g, 0, none⟩) ∧ ∃ y, w.heap[g]? = some y ∧ (o = 0 → y = .deferred (some [])) := by
  have hok : oKey n := by unfold RW at hn; unfold oKey; omega
  have hO : OX _ _ _ _ := h.obj n _ hs hok
  obtain ⟨e1, g', y, e2, e3, e4, e5⟩ := hO.2.1 rfl
  have e1 : hv n = .pointer (some ⟨g, 0, none⟩) := e1
  have hg : g' = g := by rw [e1] at e2; injection e2 with e2; injection e2 with e2; injection e2 with e2; exact e2.symm
  subst hg
  have hlt : g' < w.heap.size := (Array.getElem?_eq_some_iff.1 e3).1
  refine ⟨h.upd (av := .ob g' o') (w' := w.putObj g' x) hok hs (fun e => by cases e) (fun e => by cases e) rfl (fun g hh o ho => hh o fun e => by cases e) (fun e => by cases e) (g := g') (by rw [e1]; rfl) rfl rfl rfl (by simp) (fun k hk => World.putObj_heap_other hk) fun hc => ⟨(fun e => by cases e), fun _ => ⟨e1, g', x, e1, World.putObj_heap_same hlt, hx, ho⟩, (fun e => by cases e), (fun e => by cases e)⟩, hlt, e1, y, e3, e5⟩
theorem SimG.frame {V : UX} {pre sl : AS} (h : SimG w V 0 pre ⟨#[], []⟩ w (fun _ _ => False) hv) (hpre : (kO pre).all (Nat.ble 100000) = true) (hsl : (kO sl).all (fun k => Nat.blt k 100000) = true) {tmps : Array Value} (hsz : tmps.size = nt)
    (hsv : ∀ d av, look sl d = some av → ∃ v, tmps[d]? = some v ∧ AVRep (Us w V (fun _ _ => False)) w hv (LiveN pre) av v) : SimG w V nt (sl ++ pre) ⟨tmps, []⟩ w (fun _ _ => False) hv := by
  have hlow : ∀ {k av}, look pre k = some av → 100000 ≤ k := fun {k av} h1 => by
    rw [List.all_eq_true] at hpre
    exact Nat.le_of_ble_eq_true (hpre k (mem_keys h1))
  have hup : ∀ {k av}, look sl k = some av → k < 100000 := fun {k av} h1 => by
    rw [List.all_eq_true] at hsl
    exact bL (hsl k (mem_keys h1))
  have hlk : ∀ {k}, 100000 ≤ k → look (sl ++ pre) k = look pre k := fun {k} h1 => by
    rw [look_append]
    cases h2 : look sl k with
    | none => rfl
    | some av => have := hup h2; omega
  have hlive : LiveN (sl ++ pre) = LiveN pre := by
    funext n
    unfold LiveN Live
    apply propext
    constructor
    · rintro (h1 | ⟨e, h1, h2, h3⟩)
      · exact .inl h1
      · rw [hlk (by omega)] at h1; exact .inr ⟨e, h1, h2, h3⟩
    · rintro (h1 | ⟨e, h1, h2, h3⟩)
      · exact .inl h1
      · exact .inr ⟨e, by rw [hlk (by omega)]; exact h1, h2, h3⟩
  refine ⟨h.below, rfl, hsz, fun d av h1 h2 => ?_, fun n o av h1 h2 h3 h4 => ?_, fun n o o' av av' h1 h2 => ?_, fun k av h1 h2 => ?_, fun k av g h1 h2 => ?_, fun k k' av av' g h1 h2 h3 h4 => ?_, h.fix, fun b o hd => hd.elim⟩
  · rw [look_append] at h1
    cases h3 : look sl d with
    | none => rw [h3] at h1; have := hlow h1; omega
    | some av' =>
      rw [h3] at h1
      cases h1
      rw [hlive]
      exact hsv d av h3
  · rw [hlk (by unfold fKey; omega)] at h1
    rw [hlk (by omega)] at h3
    rw [hlive]
    exact h.fld n o av h1 h2 h3 h4
  · rw [hlk (by unfold fKey; omega)] at h1 h2
    exact h.fdis n o o' av av' h1 h2
  · rw [hlk h2.1] at h1; rw [hlive]; exact h.obj k av h1 h2
  · rw [hlk h2.1] at h1; exact h.blk k av g h1 h2
  · rw [hlk h3.1] at h1; rw [hlk h4.1] at h2; exact h.disj k k' av av' g h1 h2 h3 h4
theorem SimG.bare (h : SimG w0 U0 nt s a w D hv) {post : AS} (hp : Sub s post) (hpost : (kO post).all (Nat.ble 100000) = true) : SimG w0 U0 0 post ⟨#[], []⟩ w D hv := by
  have hS := h.sub hp
  have hlow2 : ∀ {k av}, look post k = some av → 100000 ≤ k := fun {k av} h1 => by
    rw [List.all_eq_true] at hpost
    exact Nat.le_of_ble_eq_true (hpost k (mem_keys h1))
  exact ⟨hS.below, rfl, rfl, fun d av h7 h8 => by have := hlow2 h7; omega, hS.fld, hS.fdis, hS.obj, hS.blk, hS.disj, hS.fix, hS.dlt⟩
end
def KpX (n0 : Nat) (X : Nat → Prop) (V V' : World) : Prop := ∀ b, b < n0 → ¬ X b → V'.heap[b]? = V.heap[b]?
def Hands {α : Type} (P : Program) (gf : Nat) (caps : List CV) (encC : α → List CV) (xs : List α) : Prop :=
  ∀ (w : World) (lb : List Value) (R : Nat → Nat → Prop), VReps R w caps lb → Gives P gf lb.toArray (fun x => ((encC x).map CV.v).toArray) (fun pre x _ => xs[pre.length]? = some x) (KpX w.heap.size fun b => ¬ ∃ o, R b o) (fun ys => ys = xs) w

def asgL : List Oper → Option (List (Nat × Nat))
  | [] => some []
  | o :: os => match o.dst, o.op, o.guard, asgL os with
    | some d, .assign (.tmp t), none, some r => some ((d, t) :: r)
    | _, _, _, _ => none
def asgT : List (Nat × Nat) → Array Value → Array Value
  | [], tm => tm
  | (d, t) :: r, tm => asgT r (tm.setIfInBounds d (tm.getD t undef))
def asgS : List (Nat × Nat) → AS → AS
  | [], s => s
  | (d, t) :: r, s => asgS r ((d, match look s t with | some av => av | none => .no) :: s)
def parT : List Tmp → List Value → Array Value → Array Value
  | p :: ps, v :: vs, tm => parT ps vs (tm.setIfInBounds p v)
  | _, _, tm => tm
def parS : List Tmp → List CV → AS → AS
  | p :: ps, c :: cs, s => parS ps cs ((p, .val c) :: s)
  | _, _, s => s
def SlOk (R : AV → Value → Prop) (s : AS) (tm : Array Value) : Prop := ∀ d av, look s d = some av → ∃ v, tm[d]? = some v ∧ R av v
theorem SlOk.set {R : AV → Value → Prop} {s : AS} {tm : Array Value} (h : SlOk R s tm) {d : Nat} (hd : d < tm.size) {av : AV} {v : Value} (hv : R av v) : SlOk R ((d, av) :: s) (tm.setIfInBounds d v) := by
  intro d' av' h1
  rw [look_cons] at h1
  split at h1
  · rename_i e; subst e; cases h1; exact ⟨v, by simp [hd], hv⟩
  · rename_i e
    obtain ⟨u, h2, h3⟩ := h d' av' h1
    exact ⟨u, by rw [Array.getElem?_setIfInBounds_ne (by omega)]; exact h2, h3⟩
theorem SlOk.asg {R : AV → Value → Prop} (hno : ∀ v, R .no v) : ∀ {al : List (Nat × Nat)} {s : AS} {tm : Array Value}, SlOk R s tm → (al.all fun p => Nat.blt p.1 tm.size) = true → SlOk R (asgS al s) (asgT al tm) ∧ (asgT al tm).size = tm.size
  | [], s, tm, h, _ => ⟨h, rfl⟩
  | (d, t) :: r, s, tm, h, hl => by
    rw [List.all_cons, Bool.and_eq_true] at hl
    have hd := bL hl.1
    have := SlOk.asg hno (al := r) (s := (d, match look s t with | some av => av | none => .no) :: s) (tm := tm.setIfInBounds d (tm.getD t undef)) (h.set hd ?_) (by rw [Array.size_setIfInBounds]; exact hl.2)
    · exact ⟨this.1, by rw [asgT, this.2, Array.size_setIfInBounds]⟩
    · cases e : look s t with
      | none => exact hno _
      | some av =>
        obtain ⟨v, h1, h2⟩ := h t av e
        show R av _
        simp only [Array.getD_eq_getD_getElem?, h1, Option.getD_some]
        exact h2
theorem SlOk.par {R : AV → Value → Prop} : ∀ {ps : List Tmp} {cs : List CV} {s : AS} {tm : Array Value}, SlOk R s tm → (ps.all fun p => Nat.blt p tm.size) = true → (∀ c ∈ cs, R (.val c) c.v) → SlOk R (parS ps cs s) (parT ps (cs.map CV.v) tm) ∧ (parT ps (cs.map CV.v) tm).size = tm.size
  | [], cs, s, tm, h, _, _ => ⟨by cases cs <;> exact h, by cases cs <;> rfl⟩
  | p :: ps, [], s, tm, h, _, _ => ⟨h, rfl⟩
  | p :: ps, c :: cs, s, tm, h, hl, hc => by
    rw [List.all_cons, Bool.and_eq_true] at hl
    have := SlOk.par (ps := ps) (cs := cs) (s := (p, .val c) :: s) (tm := tm.setIfInBounds p c.v) (h.set (bL hl.1) (hc c (by simp))) (by rw [Array.size_setIfInBounds]; exact hl.2) (fun c' hc' => hc c' (List.mem_cons_of_mem _ hc'))
    exact ⟨this.1, by show (parT ps (cs.map CV.v) (tm.setIfInBounds p c.v)).size = _; rw [this.2, Array.size_setIfInBounds]⟩
theorem zip_par : ∀ (ps : List Tmp) (vs : List Value) (tm : Array Value), (ps.toArray.zip vs.toArray).foldl (fun t (p, v) => t.setIfInBounds p v) tm = parT ps vs tm := by
  intro ps vs tm
  rw [List.zip_toArray, List.foldl_toArray]
  induction ps generalizing vs tm with
  | nil => cases vs <;> rfl
  | cons p ps ih =>
    cases vs with
    | nil => rfl
    | cons v vs => rw [List.zip_cons_cons, List.foldl_cons]; exact ih vs _
theorem asg_run {P : Program} {ro : Option Nat} {ops : Array Oper} {Q : Exit → Act → World → Prop} : ∀ {l : List Oper} {al : List (Nat × Nat)} {tm : Array Value} {ds : List Deferred} {w : World}, asgL l = some al → Q .normal ⟨asgT al tm, ds⟩ w → wpListIn (wideR ro) 1 P ops Q l ⟨tm, ds⟩ w
  | [], al, tm, ds, w, h, hq => by cases h; exact hq
  | o :: os, al, tm, ds, w, h, hq => by
    rw [asgL] at h
    split at h
    · rename_i d t r h1 h2 h3 h4
      cases h
      unfold wpListIn
      rw [if_pos (by simp [Region.wanted, h3])]
      refine ⟨fun _ _ => trivial, ?_⟩
      have hs : (o.semAt (wideR ro).round (Act.eval ⟨tm, ds⟩)) = pure (.value (tm.getD t undef)) := by
        rw [Oper.semAt_eq _ _ _ (fun c hc => by rw [h2] at hc; cases hc)]
        simp only [execOp, h2]
        rfl
      rw [hs]
      show wpListIn _ _ _ _ _ _ _ _
      rw [h1]
      exact asg_run h4 hq
    · cases h

section
variable {P : Program} {w0 : World} {U0 : UX} {nt : Nat} {s : AS}

theorem wpIn_n {n m : Nat} {c : Code} {Q : Exit → Act → World → Prop} {a : Act} {w : World} (h : c.wpIn Fence.wide n P Q a w) : c.wpIn Fence.wide m P Q a w :=
  fun b k cs h1 h2 _ => h b k cs h1 h2 (room_wide _)
def AWpM (P : Program) (w0 : World) (U0 : UX) (nt : Nat) (c : Code) (Q : Exit → AS → Nat → Prop) (s : AS) : Prop :=
  ∀ a w, Sim w0 U0 nt s a w → c.wpIn Fence.wide 1 P (fun e a' w' => ∃ s' a'' g, Q e s' g ∧ Sim w0 U0 nt s' a'' w' ∧ a' = wdA a'' [⟨.collected g, #[]⟩] ∧ look s' 299999 = some (.ob g 0)) a w
theorem awpM_pre {x y : Code} {Q : Exit → AS → Nat → Prop} (h : AWp P w0 U0 nt x (fun e s' => e = .normal ∧ AWpM P w0 U0 nt y Q s') s) : AWpM P w0 U0 nt (.seq x y) Q s := fun a w hs => by
  have := h ⟨none, []⟩ a w hs
  unfold WP at this
  rw [wd_none hs.df] at this
  refine wpIn_seq (wpIn_mono this ?_)
  rintro e a' w' ⟨a'', rfl, s', ⟨rfl, h2⟩, h3⟩
  show Code.wpIn _ _ _ _ _ _ _
  rw [wd_none h3.df]
  exact h2 a'' w' h3
theorem awpM_post {x y : Code} {Q : Exit → AS → Nat → Prop} (h : AWpM P w0 U0 nt x (fun e s' g => e = .normal ∧ AWp P w0 U0 nt y (fun e s2 => Q e s2 g ∧ look s2 299999 = some (.ob g 0)) s') s) : AWpM P w0 U0 nt (.seq x y) Q s := fun a w hs => by
  refine wpIn_seq (wpIn_mono (h a w hs) ?_)
  rintro e a' w' ⟨s', a'', g, ⟨rfl, h2⟩, h3, rfl, h4⟩
  show Code.wpIn _ _ _ _ _ _ _
  refine wpIn_mono (h2 ⟨none, [⟨.collected g, #[]⟩]⟩ a'' w' h3) ?_
  rintro e b w2 ⟨b', rfl, s2, ⟨h5, h6⟩, h7⟩
  exact ⟨s2, b', g, h5, h7, rfl, h6⟩
theorem awpM_block {id : Nat} {c : Code} {Q : Exit → AS → Nat → Prop} (h : AWpM P w0 U0 nt c (fun e s' g => e = .normal ∧ Q .normal s' g) s) : AWpM P w0 U0 nt (.block id c) Q s := fun a w hs => by
  refine wpIn_block (wpIn_mono (h a w hs) ?_)
  rintro e a' w' ⟨s', a'', g, ⟨rfl, h2⟩, h3⟩
  exact ⟨s', a'', g, h2, h3⟩

theorem awpM_range {α : Type} {g : Operand} {ps : List Tmp} {rid : Nat} {l : List Oper} {body : Code} {gf : Nat} {caps : List CV} {encC : α → List CV} {xs : List α} {al : List (Nat × Nat)} {n1 q1 p1} (ob : Nat → AS) (sl : AS)
    (hgv : ev (look s) g = some ⟨0, .fn gf 0 caps, n1, q1, p1⟩) (hent : EntF P gf) (hG : Hands P gf caps encC xs)
    (hasg : asgL l = some al) (hal : (al.all fun p => Nat.blt p.1 nt && Nat.blt p.1 100000) = true) (hps : (ps.all fun p => Nat.blt p nt && Nat.blt p 100000) = true) (hsc : ∀ x ∈ xs, ∀ c ∈ encC x, ∃ v, c = .sc v ∧ v.oneCell' = true) (hlen : ∀ x, (encC x).length = ps.length)
    (hsl : SubL s sl) (hslk : (kO sl).all (fun k => Nat.blt k 100000) = true) (hob0 : SubL s (ob 0))
    (hlend : ∀ k, (ob k).all lendB = true) (hleave : ∀ k, (ob k).all (leaveB (kO (ob k))) = true) (hkeys : ∀ k, kO (ob k) = kO (ob 0))
    (hko : ((kO (ob 0)).all fun k => Nat.ble 300000 k) = true) (hnr : noRefB s ((299999, []) :: (299998, []) :: newN (kO (ob 0)) (kO (ob 0)) (kO (ob 0))) = true)
    (hnm : ((newN (kO (ob 0)) (kO (ob 0)) (kO (ob 0))).all fun q => !Nat.beq q.1 0 && (!Nat.beq q.1 100000 && !Nat.beq q.1 1100000)) = true)
    (hround : ∀ k x, xs[k]? = some x → ∀ (w : World) (U : UX), (∀ k' v, U.f k' = some v → hasN (kO (ob k)) k' = true) → AWp P w U nt body (fun e s' => e = .normal ∧ Wk w U nt s' (ob (k + 1))) (asgS al (parS ps (encC x) sl) ++ ob k)) :
    AWpM P w0 U0 nt (.rangeFunc g ps.toArray (.region rid l.toArray false) body) (fun e s' m => e = .normal ∧ s' = ob xs.length ++ ((299998, .ob (m + 1) 1) :: (299999, .ob m 0) :: s)) s := by
  rintro a w ⟨D0, hv0, h⟩
  obtain ⟨ys, lb, e1, e2, e3, e4⟩ := vrep_fn.1 (ev_val h (fun k _ => rfl) hgv)
  have hys : ys = [] := List.eq_nil_of_length_eq_zero e2
  subst hys
  have hcaps : VReps (Us w0 U0 D0) w caps lb := sq_vreps e4 (by simpa using e3)
  obtain ⟨lp, hlp⟩ : ∃ lp : AS, lp = (299998, AV.ob (w.heap.size + 1) 1) :: (299999, AV.ob w.heap.size 0) :: s := ⟨_, rfl⟩
  have hnE := noRefB_spec hnr
  have hlk3 : ∀ {k av k'}, look (ob k) k' = some av → 300000 ≤ k' := fun {k av k'} h1 => by
    rw [List.all_eq_true] at hko
    refine Nat.le_of_ble_eq_true (hko k' ?_)
    rw [← hkeys k]
    exact mem_keys h1
  have hL : look lp 299998 = some (.ob (w.heap.size + 1) 1) := by rw [hlp, lS]
  have hDf : look lp 299999 = some (.ob w.heap.size 0) := by rw [hlp, lN (by omega), lS]
  have hap : ∀ {k k' : Nat}, k' < 300000 → look (ob k ++ lp) k' = look lp k' := fun {k k'} h1 => by
    rw [look_append]
    cases e : look (ob k) k' with
    | none => rfl
    | some av => have := hlk3 e; omega
  have hsubo : ∀ k, Sub (ob k ++ lp) (ob k) := fun k k' av h1 => by rw [look_append, h1]; rfl
  -- what holds between rounds
  let I : List α → World → Prop := fun pre V => ∃ D hv, (∀ b o, D0 b o → D b o) ∧ SimG w0 U0 nt (ob pre.length ++ lp) a V D hv
  have hIp : ∀ (pre : List α) (A : World) (r r' : Loop), I pre A → A.heap[w.heap.size + 1]? = some (.loop r) → I pre (A.putObj (w.heap.size + 1) (.loop r')) := by
    rintro pre A r r' ⟨D, hv, hd, hS⟩ hr
    obtain ⟨h1, _⟩ := hS.putob (n := 299998) (o := 1) (o' := 1) (by unfold RW; omega) (by rw [hap (by omega)]; exact hL) (x := .loop r') (fun _ _ _ e => by cases e) (fun e => by cases e)
    refine ⟨D, hv, hd, h1.congr fun k => ?_⟩
    rw [look_cons]
    split
    · rename_i e; subst e; rw [hap (by omega)]; exact hL
    · rfl
  have hk1 : ∀ {k}, k < 300000 → look (ob 0) k = none := fun {k} hk => by
    cases e : look (ob 0) k with
    | none => rfl
    | some av => have := hlk3 e; omega
  have h0 : ∀ r : Loop, I [] ((w.alloc (.deferred (some []))).alloc (.loop r)) := fun r => by
    have h1 := h.newob (n := 299999) (o := 0) (by unfold RW; omega) (hnE (299999, []) (by simp)).nr (x := .deferred (some [])) (fun _ _ _ e => by cases e) (fun _ => rfl)
    have hnr2 : NoRef ((299999, AV.ob w.heap.size 0) :: s) 299998 := fun k av hk => by
      rw [look_cons] at hk
      split at hk
      · rename_i e; subst e; cases hk; exact ⟨by show (0 : Nat) ≠ 299998; decide, by decide, by decide⟩
      · exact (hnE (299998, []) (by simp)).nr k av hk
    have h2 := h1.newob (n := 299998) (o := 1) (by unfold RW; omega) hnr2 (x := .loop r) (fun _ _ _ e => by cases e) (fun e => by cases e)
    rw [show (w.alloc (.deferred (some []))).heap.size = w.heap.size + 1 by simp, ← hlp] at h2
    refine ⟨D0, _, fun _ _ h => h, h2.congr fun k => ?_⟩
    show look (ob 0 ++ lp) k = _
    rw [look_append]
    cases e : look (ob 0) k with
    | none => rfl
    | some av =>
      have h3 := hlk3 e
      have h4 := hob0.sub k av e
      show some av = _
      rw [hlp, lN (by omega), lN (by omega), h4]
  have hwl : (w.heap.size + 1) = (w.heap.size + 1) := rfl
  refine wpIn_n (wp_rangeL (gf := gf) (lb := lb.toArray) (by rw [e1]) hent (Ok := fun pre x => xs[pre.length]? = some x) (hG w lb (Us w0 U0 D0) hcaps) (fun {A B C} h1 h2 b hb hx => (h2 b hb hx).trans (h1 b hb hx)) (fun W l o' hl b hb hx => World.putObj_heap_other (by omega)) (fun x => by simp [hlen]) I (fun pre A B ⟨D, hv, hd, hS⟩ hb => ⟨D, hv, hd, hS.grow' hb⟩) hIp h0
    (fun x => ⟨asgT al (parT ps ((encC x).map CV.v) a.tmps), []⟩) (fun x W K hK => ?_) (fun pre x W hI hx hsz => ?_) (fun ys W hys hI hD => ?_))
  · rw [zip_par]
    exact wpIn_region_lit (asg_run (ro := some (w.heap.size + 1)) hasg hK)
  · obtain ⟨D, hv, hd, hS⟩ := hI
    obtain ⟨k, hk⟩ : ∃ k, k = pre.length := ⟨_, rfl⟩
    rw [← hk] at hx hS
    obtain ⟨V, v1, v2, v3, v4, v5, v6⟩ := hS.lend (hsubo k) (hlend k)
    have hbig : ((kO (ob k)).all (Nat.ble 100000)) = true := by
      rw [hkeys k, List.all_eq_true]
      intro q hq
      have := Nat.le_of_ble_eq_true (List.all_eq_true.1 hko q hq)
      exact Nat.ble_eq_true_of_le (by omega)
    have hslv : SlOk (fun av v => AVRep (Us W V (fun _ _ => False)) W hv (LiveN (ob k)) av v) sl a.tmps := fun d av h1 => by
      have hd5 : d < 100000 := by
        rw [List.all_eq_true] at hslk
        exact bL (hslk d (mem_keys h1))
      have h2 : look (ob k ++ lp) d = some av := by
        rw [hap (by omega), hlp, lN (by omega), lN (by omega)]
        exact hsl.sub d av h1
      obtain ⟨v, h3, h4⟩ := hS.slot d av h2 hd5
      exact ⟨v, h3, h4.move v6 (fun _ h5 => h5.imp id fun ⟨e, he⟩ => ⟨e, hsubo k _ _ he.1, he.2⟩) fun _ => rfl⟩
    have hpar := hslv.par (ps := ps) (cs := encC x) (by
      rw [List.all_eq_true] at hps ⊢
      intro p hp
      have := hps p hp
      rw [Bool.and_eq_true] at this
      rw [hS.size]; exact this.1) (fun c hc => by
        obtain ⟨v, rfl, hv1⟩ := hsc x (List.mem_of_getElem? hx) c hc
        exact avrep_sc hv1)
    have hasg2 := hpar.1.asg (fun v => by unfold AVRep; simp) (al := al) (by
      rw [List.all_eq_true] at hal ⊢
      intro p hp
      have := hal p hp
      rw [Bool.and_eq_true] at this
      rw [hpar.2, hS.size]; exact this.1)
    have hkl : (kO (asgS al (parS ps (encC x) sl))).all (fun k => Nat.blt k 100000) = true := by
      have hp1 : ∀ (ps : List Tmp) (cs : List CV) (sl : AS), (ps.all fun p => Nat.blt p nt && Nat.blt p 100000) = true → (kO sl).all (fun k => Nat.blt k 100000) = true → (kO (parS ps cs sl)).all (fun k => Nat.blt k 100000) = true := by
        intro ps
        induction ps with
        | nil => intro cs sl _ h; cases cs <;> exact h
        | cons p ps ih =>
          intro cs sl h1 h2
          cases cs with
          | nil => exact h2
          | cons c cs =>
            rw [List.all_cons, Bool.and_eq_true] at h1
            have h3 := h1.1
            rw [Bool.and_eq_true] at h3
            refine ih cs ((p, .val c) :: sl) h1.2 ?_
            show ((p :: kO sl).all _) = true
            rw [List.all_cons, Bool.and_eq_true]
            exact ⟨h3.2, h2⟩
      have hp2 : ∀ (al : List (Nat × Nat)) (sl : AS), (al.all fun p => Nat.blt p.1 nt && Nat.blt p.1 100000) = true → (kO sl).all (fun k => Nat.blt k 100000) = true → (kO (asgS al sl)).all (fun k => Nat.blt k 100000) = true := by
        intro al
        induction al with
        | nil => intro sl _ h; exact h
        | cons p al ih =>
          intro sl h1 h2
          obtain ⟨d, t⟩ := p
          rw [List.all_cons, Bool.and_eq_true] at h1
          have h3 := h1.1
          rw [Bool.and_eq_true] at h3
          refine ih _ h1.2 ?_
          show ((d :: kO sl).all _) = true
          rw [List.all_cons, Bool.and_eq_true]
          exact ⟨h3.2, h2⟩
      exact hp2 _ _ hal (hp1 _ _ _ hps hslk)
    have hF := v2.frame (nt := nt) hbig hkl (tmps := asgT al (parT ps ((encC x).map CV.v) a.tmps)) (by rw [hasg2.2, hpar.2]; exact hS.size) hasg2.1
    have hR := hround k x hx W V v1 ⟨some (w.heap.size + 1), []⟩ _ W ⟨_, hv, hF⟩
    refine wpIn_mono hR ?_
    rintro e a' W' ⟨a'', rfl, s', ⟨rfl, h5⟩, h6⟩
    obtain ⟨D', hv', h7⟩ := h5 a'' W' h6
    have h8 := h7.bare (post := ob (k + 1)) (fun _ _ h => h) (by rw [hkeys (k + 1), ← hkeys k]; exact hbig)
    have hnx : ∀ b, b < W.heap.size → ¬ V.x b → W'.heap[b]? = W.heap[b]? := fun b hb hx => h8.below.block b hb hx
    have hnob : ∀ {b kk o}, kk = 299998 ∨ kk = 299999 → look lp kk = some (.ob b o) → ¬ V.x b := fun {b kk o} hkk h9 hb => by
      obtain ⟨q, av, g1, g2, g3⟩ := (v3 b).1 hb
      have hq := hlk3 g1
      have hav : av.t ≠ 7 := by
        have h3 := all_look (hlend k) g1
        unfold lendB at h3
        unfold oKey at g2
        have h4 : Nat.ble 500000 q = false := by
          cases e : Nat.ble 500000 q with
          | false => rfl
          | true => have := Nat.le_of_ble_eq_true e; omega
        simp only [h4, Bool.and_eq_true, Bool.not_eq_true'] at h3
        intro e
        rw [e] at h3
        exact absurd h3.1.2 (by decide)
      have hkk' : oKey kk := by unfold oKey; omega
      have hO : OX (Us w0 U0 D) W (.ob b o) (hv kk) := hS.obj kk (.ob b o) (by rw [hap (by omega)]; exact h9) hkk'
      have hval : hv kk = .pointer (some ⟨b, 0, none⟩) := (hO.2.1 rfl).1
      exact hS.disj q kk av _ b (hsubo k _ _ g1) (by rw [hap (by omega)]; exact h9) g2 hkk' hav (fun e => by cases e) (by omega) g3 (by rw [hval]; rfl)
    have hnL := hnob (.inl rfl) hL
    have hnD := hnob (.inr rfl) hDf
    have hqn : ∀ q ∈ newN (kO (ob 0)) (kO (ob 0)) (kO (ob 0)), q.1 ≠ 0 ∧ 100000 ≠ q.1 ∧ 100000 + 1000000 ≠ q.1 := fun q hq => by
      rw [List.all_eq_true] at hnm
      have := hnm q hq
      simp only [Bool.and_eq_true, Bool.not_eq_true'] at this
      obtain ⟨g1, g2, g3⟩ := this
      exact ⟨(fun e => by rw [e] at g1; cases g1), (fun e => by rw [← e] at g2; cases g2), (fun e => by rw [← e] at g3; cases g3)⟩
    obtain ⟨D2, hv2, h9, _, hD2⟩ := hS.back (hsubo k) (hlend k) (hleave (k + 1)) (by rw [hkeys (k + 1), hkeys k, List.all_eq_true]; intro q hq; exact hasN_of hq) (fun q hq => by
      rw [hkeys (k + 1), hkeys k] at hq
      intro kk av hkk hex
      have hq2 := hnE q (by simp only [List.mem_cons]; exact .inr (.inr hq))
      rw [look_append] at hkk
      cases e : look (ob k) kk with
      | some av' =>
        exfalso
        have hin : hasN q.2 kk = true := by
          have : ∀ (P1 P2 ks : List Nat), q ∈ newN P1 P2 ks → q.2 = P1 ++ P2 := by
            intro P1 P2 ks
            induction ks with
            | nil => intro h; cases h
            | cons y ys ih =>
              intro h
              unfold newN at h
              split at h
              · exact ih h
              · rcases List.mem_cons.1 h with rfl | h
                · rfl
                · exact ih h
              · exact ih h
              · rcases List.mem_cons.1 h with rfl | h
                · rfl
                · exact ih h
              · rcases List.mem_cons.1 h with rfl | h
                · rfl
                · exact ih h
              · rcases List.mem_cons.1 h with rfl | h
                · rfl
                · exact ih h
          rw [this _ _ _ hq]
          refine hasN_of (List.mem_append_left _ ?_)
          rw [← hkeys k]
          exact mem_keys e
        rw [hin] at hex
        cases hex
      | none =>
        rw [e] at hkk
        have hkk : look lp kk = some av := hkk
        rw [hlp, look_cons] at hkk
        split at hkk
        · rename_i e2
          injection hkk with hkk
          obtain ⟨g1, g2, g3⟩ := hqn q hq
          rw [← e2, ← hkk]
          exact ⟨fun e => g1 e.symm, g2, g3⟩
        · rw [look_cons] at hkk
          split at hkk
          · rename_i e2
            injection hkk with hkk
            obtain ⟨g1, g2, g3⟩ := hqn q hq
            rw [← e2, ← hkk]
            exact ⟨fun e => g1 e.symm, g2, g3⟩
          · exact hq2 kk av hkk hex) (fun q v hq1 hq2 => by rw [hkeys (k + 1), ← hkeys k] at hq2; exact hq2) v3 v4 v5 v2 h8
    refine ⟨hnx _ (by omega) hnL, hnx _ (by omega) hnD, fun b hb hx => ?_, D2, hv2, fun b o hb => hD2 b o (hd b o hb), ?_⟩
    · obtain ⟨o, ho⟩ := Classical.not_not.1 hx
      refine hnx b (by omega) fun hb2 => ?_
      obtain ⟨q, av, g1, g2, g3⟩ := (v3 b).1 hb2
      have hq := hlk3 g1
      have hav : av.t ≠ 7 ∧ av.t ≠ 6 := by
        have h3 := all_look (hlend k) g1
        unfold lendB at h3
        unfold oKey at g2
        have h4 : Nat.ble 500000 q = false := by
          cases e : Nat.ble 500000 q with
          | false => rfl
          | true => have := Nat.le_of_ble_eq_true e; omega
        simp only [h4, Bool.and_eq_true, Bool.not_eq_true'] at h3
        exact ⟨(fun e => by rw [e] at h3; exact absurd h3.1.2 (by decide)), (fun e => by rw [e] at h3; exact absurd h3.1.1.2 (by decide))⟩
      obtain ⟨f1, f2, f3⟩ := hS.blk q av b (hsubo k _ _ g1) g2 hav.1 g3
      have ho2 : Us w0 U0 D b o := ho.imp id fun h => ⟨h.1, hd _ _ h.2⟩
      exact us_ne ho2 f1 (f3 o fun e => absurd e hav.2) rfl
    · have hlen2 : (pre ++ [x]).length = k + 1 := by rw [List.length_append, hk]; rfl
      rw [hlen2]
      refine h9.sub fun q av hq => ?_
      rw [look_append] at hq ⊢
      cases e : look (ob (k + 1)) q with
      | some av' => rw [e] at hq; exact hq
      | none =>
        rw [e] at hq
        have hq : look lp q = some av := hq
        show look (ob k ++ lp) q = some av
        rw [look_append]
        cases e2 : look (ob k) q with
        | none => exact hq
        | some av' =>
          exfalso
          have h1 := mem_keys e2
          rw [hkeys k, ← hkeys (k + 1)] at h1
          obtain ⟨av2, h2⟩ : ∃ av2, look (ob (k + 1)) q = some av2 := by
            clear e
            generalize ob (k + 1) = L at h1
            induction L with
            | nil => cases h1
            | cons y L ih =>
              obtain ⟨q', av2⟩ := y
              rw [look_cons]
              by_cases e3 : q' = q
              · exact ⟨av2, if_pos e3⟩
              · rw [if_neg e3]
                rcases List.mem_cons.1 h1 with h1 | h1
                · exact absurd h1.symm e3
                · exact ih h1
          rw [e] at h2; cases h2
  · subst hys
    obtain ⟨D, hv, hd, hS⟩ := hI
    refine ⟨_, a, w.heap.size, ⟨rfl, rfl⟩, ⟨D, hv, by rw [hlp] at hS; exact hS⟩, by show _ = wdA a _; unfold wdA; rw [h.dfr], ?_⟩
    have := hap (k := ys.length) (k' := 299999) (by omega)
    rw [hDf, hlp] at this
    exact this
end
end Go.Proofs.Ytiammidklcjelab
