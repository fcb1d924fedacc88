/-
  UnFns5 UnFns6 UnFns7 UnFns8 AbBack
-/
import Derived.Test.YteegmcfobgpemaaGreatMg6
import Derived.Test.YteegmcfobgpemaaGreatMg4
import Derived.Test.YteegmcfobgpemaaGreatMg2
namespace Go.Proofs.YteegmcfobgpemaaGreat
open Go.RowKit
set_option linter.unusedVariables false
set_option linter.unusedSimpArgs false
set_option maxRecDepth 100000
theorem sumTo_ge {f : Nat → Nat} : ∀ {N m : Nat}, m < N → f m ≤ sumTo f N
  | 0, m, h => by omega
  | N + 1, m, h => by
    rw [sumTo]
    rcases Nat.lt_or_ge m N with h1 | h1
    · have := sumTo_ge (f := f) h1; omega
    · have : m = N := by omega
      rw [this]; omega
theorem sumTo_le {f : Nat → Nat} {B : Nat} : ∀ {N : Nat}, (∀ m, m < N → f m ≤ B) → sumTo f N ≤ N * B
  | 0, _ => by simp [sumTo]
  | N + 1, h => by
    rw [sumTo]
    have h1 := sumTo_le (N := N) fun m hm => h m (by omega)
    have h2 := h N (by omega)
    rw [Nat.add_mul]
    omega
theorem mea_le {c : Cl} {H : Nat → Nat} (hk : kidOk c.ns) (hp : pw c.ns ≤ 1000) : mea c H ≤ c.ps.length + 2000000 := by
  have hN : c.ns.length ≤ 1000 := Nat.le_trans (len_pw _) hp
  have h1 : sumTo (hw c.ns H) c.ns.length ≤ c.ns.length * 2000 := sumTo_le fun m hm => by
    unfold hw wgt
    split
    · split
      · rename_i h0
        rcases Nat.eq_zero_or_pos (nT c.ns m).l.length with h2 | h2
        · omega
        · have := hk m hm h0 ((nT c.ns m).l.length - 1) (by omega)
          omega
      · rename_i h0
        have h3 := sumTo_ge (f := gw c.ns 0) hm
        rw [gw0, if_pos (by omega)] at h3
        have : sumTo (gw c.ns 0) c.ns.length = pw c.ns := rfl
        omega
    · omega
  have h2 : c.ns.length * 2000 ≤ 1000 * 2000 := Nat.mul_le_mul_right _ hN
  unfold mea
  omega
theorem trmOk.joinTo {c : Cl} (h : trmOk c.ns) {a b : Nat} (ha : a < c.ns.length) (hb : b < c.ns.length) : trmOk (joinTo c a b).1.ns := by
  unfold Go.Proofs.YteegmcfobgpemaaGreat.joinTo
  split
  · exact h.same (setUpLen _ _ _) fun m => tk_up.1 m
  · split
    · exact h
    · refine trmOk.same ?_ (setUpLen _ _ _) fun m => tk_up.1 m
      exact (h.parts ha).parts (Nat.lt_of_lt_of_le hb parts_len)
theorem trmOk.join {k : Nat} {c : Cl} {x y : Nat} {q : Cl × Bool} (h : trmOk c.ns) (hu : upOk c.ns) (hx : x < c.ns.length) (hy : y < c.ns.length) (hj : joinC k c x y = some q) : trmOk q.1.ns := by
  unfold joinC at hj
  cases h1 : headC k c.ns x with
  | none => rw [h1] at hj; cases hj
  | some q1 =>
  rw [h1] at hj
  simp only at hj
  cases h2 : headC k q1.1 y with
  | none => rw [h2] at hj; cases hj
  | some q2 =>
  rw [h2] at hj
  simp only at hj
  obtain ⟨u1, l1, x1, t1, k1⟩ := headC_keep k h1 hu hx
  obtain ⟨u2, l2, y2, t2, k2⟩ := headC_keep k h2 u1 (by rw [l1]; exact hy)
  have hT : trmOk q2.1 := h.same (by omega) fun m => by rw [t2, t1]
  split at hj
  · cases hj; exact hT
  · split at hj
    · cases hj
      exact trmOk.joinTo (c := ⟨q2.1, c.vr, c.ps⟩) hT (by show q2.2 < q2.1.length; omega) (by show q1.2 < q2.1.length; omega)
    · cases hj
      exact trmOk.joinTo (c := ⟨q2.1, c.vr, c.ps⟩) hT (by show q1.2 < q2.1.length; omega) (by show q2.2 < q2.1.length; omega)
structure Inv (c : Cl) (E : List (Tm × Tm)) (M : Nat) : Prop where
  cls : ∃ H r, ClsC c H r E ∧ mea c H ≤ M
  trm : trmOk c.ns
  big : pw c.ns ≤ 1000
theorem Inv.fit {c : Cl} {E} {M : Nat} (h : Inv c E M) : Fit c := by
  obtain ⟨H, r, h1, _⟩ := h.cls
  exact ⟨h1.ups, fun n hn hk i hi => ((h1.kid n hn hk).2 i hi).1, h.trm, by have := h.big; omega⟩
theorem Inv.ps {c : Cl} {E} {M : Nat} (h : Inv c E M) : c.ps.length ≤ M := by
  obtain ⟨H, r, _, h2⟩ := h.cls
  unfold mea at h2
  omega
theorem joinC_one {k k' : Nat} {c : Cl} {x y : Nat} {q q'} (h : joinC k c x y = some q) (h' : joinC k' c x y = some q') : q = q' := by
  have h1 := joinC_le (Nat.le_max_left k k') h
  have h2 := joinC_le (Nat.le_max_right k k') h'
  rw [h1] at h2
  exact Option.some.inj h2
theorem Inv.join {c : Cl} {E} {M k : Nat} {p : Nat × Nat} {q : Cl × Bool} (h : Inv c E M) (hp : c.ps.getLast? = some p) (hj : joinC k ⟨c.ns, c.vr, c.ps.dropLast⟩ p.1 p.2 = some q) : (p.1 < c.ns.length ∧ p.2 < c.ns.length) ∧ (q.2 = true → Inv q.1 E M) := by
  obtain ⟨H, r, h1, h2⟩ := h.cls
  have hps : c.ps = c.ps.dropLast ++ [p] := by
    have hne : c.ps ≠ [] := fun e => by rw [e] at hp; cases hp
    have h8 : c.ps.getLast hne = p := by
      have := List.getLast?_eq_some_getLast hne
      rw [hp] at this
      exact (Option.some.inj this).symm
    rw [← h8, List.dropLast_concat_getLast hne]
  have hc : c = ⟨c.ns, c.vr, c.ps.dropLast ++ [(p.1, p.2)]⟩ := by
    conv => lhs; rw [show c = ⟨c.ns, c.vr, c.ps⟩ from rfl, hps]
  have hpm : p ∈ c.ps := by rw [hps]; simp
  have hlt := h1.pss p hpm
  refine ⟨hlt, fun hq => ?_⟩
  rw [hc] at h1
  obtain ⟨k', q', e1, l1, l2⟩ := joinC_spec h1
  have := joinC_one hj e1
  subst this
  obtain ⟨H', r', g1, g2⟩ := l2 hq
  rw [← hc] at g2
  refine ⟨⟨H', r', g1, by omega⟩, ?_, ?_⟩
  · exact trmOk.join (c := ⟨c.ns, c.vr, c.ps.dropLast⟩) h.trm h.fit.up hlt.1 hlt.2 hj
  · rw [pw_join hj]; exact h.big
noncomputable abbrev prw (p : Tm × Tm) : CV := .row [p.1.cw, p.2.cw]
noncomputable def prv (p : Tm × Tm) : CV := prw p
theorem pr_at {l : List (Tm × Tm)} {i : Nat} {n : Tm × Tm} (h : l[i]? = some n) : (l.map prv)[i]? = some (prw n) := by rw [List.getElem?_map, h]; rfl
theorem pr_size (l : List (Tm × Tm)) : ∀ c ∈ l.map prv, c.size = 4 := by
  intro c hc
  obtain ⟨b, _, rfl⟩ := List.mem_map.1 hc
  rfl
theorem pw_open (c : Cl) (p : Tm × Tm) : pw (openC c p).ns = pw c.ns + p.1.size + p.2.size := by
  show pw (addC (addC c p.1) p.2).ns = _
  rw [pw_add, pw_add]
theorem Inv.opn {c : Cl} {E} {M : Nat} (h : Inv c E M) (hp : c.ps = []) {p : Tm × Tm} (h1 : p.1.rng ∧ p.1.ok) (h2 : p.2.rng ∧ p.2.ok) (hb : pw c.ns + p.1.size + p.2.size ≤ 1000) : Inv (openC c p) (E ++ [p]) 2000001 := by
  obtain ⟨H, r, g1, _⟩ := h.cls
  obtain ⟨H', r', g2⟩ := g1.openC p
  have hk : kidOk (openC c p).ns := fun n hn hk i hi => ((g2.kid n hn hk).2 i hi).1
  have hpw : pw (openC c p).ns ≤ 1000 := by rw [pw_open]; exact hb
  have hm := mea_le (H := H') hk hpw
  have hpl : (openC c p).ps.length = 1 := by
    show (c.ps ++ _).length = 1
    rw [hp]; rfl
  exact ⟨⟨H', r', g2, by omega⟩, (h.trm.add h1.1 h1.2).add h2.1 h2.2, hpw⟩
def plcS (l : List (Tm × Tm)) : Nat := (l.map fun p => p.1.size + p.2.size).sum
-- 
set_option maxHeartbeats 8000000 in
theorem uJoinAll_abs (k : Nat) (l : List (Tm × Tm)) (q : Cl × Bool) (hq : joinAllC k l ⟨[], [], []⟩ = some q) (hl : ∀ p ∈ l, (p.1.rng ∧ p.1.ok) ∧ (p.2.rng ∧ p.2.ok)) (hb : plcS l ≤ 1000) : AFunO Tryz.prog 122 (cstM ⟨[], [], []⟩) [.bp 350001 0 [], .val (.lst (l.map prv))] (.val (.b q.2)) (cstM q.1) := by
  have hsz := pr_size l
  have hll : l.length ≤ 1000 := by
    refine Nat.le_trans ?_ hb
    unfold plcS
    clear hq hl hb hsz
    induction l with
    | nil => simp
    | cons p l ih => simp only [List.map_cons, List.sum_cons, List.length_cons]; have := p.1.size_pos; omega
  refine afunO_of Tryz.func122 Tryz.ntmps122 rfl rfl rfl rfl rfl rfl ?_
  intro w U hU
  refine aS (aR ?_)
  (refine nx (aA (gN rfl) rfl rfl rfl rfl rfl) rfl ?_)
  show AWp _ _ _ _ _ _ _
  refine aS (aS (aR ?_))
  (refine nx (aM (gN rfl) rfl rfl rfl rfl rfl) rfl ?_)
  (refine nx (a_len (gN rfl) rfl rfl rfl rfl rfl rfl rfl) rfl ?_)
  (refine nx (aM (gN rfl) rfl rfl rfl rfl rfl) rfl ?_)
  show AWp _ _ _ _ _ _ _
  refine aB (awp_loop (fun m s => ∃ i c E, m = l.length - i ∧ i ≤ l.length ∧ joinAllC k (l.drop i) c = some q ∧ c.ps = [] ∧ Inv c E 2000001 ∧ pw c.ns + plcS (l.drop i) ≤ 1000 ∧ s = (0, AV.bp 350001 0 []) :: (7, .val (.lst (l.map prv))) :: (8, .val (.i (l.map prv).length)) :: (9, .val (.i (i : Int))) :: cstM c) (n := l.length) (s' := (0, AV.bp 350001 0 []) :: (7, .val (.lst (l.map prv))) :: (8, .val (.i (l.map prv).length)) :: (9, .val (.i ((0 : Nat) : Int))) :: cstM ⟨[], [], []⟩) (wk_sub ⟨rfl, rfl, rfl, rfl, rfl, rfl, rfl, rfl, rfl, rfl, rfl, trivial⟩) ⟨0, ⟨[], [], []⟩, [], by omega, by omega, hq, rfl, ⟨⟨id, id, Cls.nil, by show 0 + sumTo _ 0 ≤ _; simp [sumTo]⟩, (fun x hx => by cases hx), by show sumTo _ 0 ≤ _; simp [sumTo]⟩, by show sumTo _ 0 + _ ≤ _; simpa [sumTo] using hb, rfl⟩ ?_)
  rintro m s ⟨i, c, E, hm, hi, hq, hps, hI, hbi, rfl⟩
  refine aS (aR ?_)
  (refine nx (a_lss (gN rfl) rfl rfl rfl rfl rfl rfl) rfl ?_)
  show AWp _ _ _ _ _ _ _
  refine aS (aC rfl (fun hlt => ?_) (fun hlt => ?_))
  case refine_2 =>
    have hil : i = l.length := by
      have : ¬ i < l.length := by simpa using hlt
      omega
    rw [hil, List.drop_length] at hq
    cases hq
    refine aE ?_
    show AWp _ _ _ _ _ _ _
    refine aS (aR ?_)
    (refine nx (aA (gN rfl) rfl rfl rfl rfl rfl) rfl ?_)
    show AWp _ _ _ _ _ _ _
    exact aT ⟨.inr rfl, _, Wk.refl _, rfl, rfl, rfl, rfl, rfl, rfl, rfl, rfl, trivial⟩
  have hil : i < l.length := by simpa using hlt
  obtain ⟨p, hp⟩ : ∃ p, l[i]? = some p := ⟨l[i], List.getElem?_eq_getElem hil⟩
  have hp' := pr_at hp
  have hpm := List.mem_of_getElem? hp
  have hdr : l.drop i = p :: l.drop (i + 1) := by
    obtain ⟨hk, e⟩ := List.getElem?_eq_some_iff.1 hp
    rw [List.drop_eq_getElem_cons hk, e]
  rw [hdr, joinAllC] at hq
  rw [hdr] at hbi
  have hbi : pw c.ns + (p.1.size + p.2.size + plcS (l.drop (i + 1))) ≤ 1000 := hbi
  obtain ⟨⟨r1, o1⟩, r2, o2⟩ := hl p hpm
  have hl0 : c.ns.length ≤ 1000 := Nat.le_trans (len_pw _) (by omega)
  have a1 := uAdd_abs c p.1 r1 (by omega)
  have a2 := uAdd_abs (addC c p.1) p.2 r2 (by rw [addC_len]; omega)
  have a3 := uPush_abs (addC (addC c p.1) p.2) c.ns.length (c.ns.length + 1) (by show c.ps.length ≤ _; rw [hps]; decide)
  rw [addC_len] at a2
  have hop : (⟨(addC (addC c p.1) p.2).ns, (addC (addC c p.1) p.2).vr, (addC (addC c p.1) p.2).ps ++ [(c.ns.length, c.ns.length + 1)]⟩ : Cl) = openC c p := rfl
  rw [hop] at a3
  have hIo := hI.opn hps ⟨r1, o1⟩ ⟨r2, o2⟩ (by omega)
  refine aK ?_
  show AWp _ _ _ _ _ _ _
  refine aS (aB (aS (aR ?_)))
  (refine nx (a_index (j := i) (gN rfl) rfl rfl rfl rfl rfl rfl rfl rfl rfl (hp') rfl (hsz)) rfl ?_)
  (refine nx (a_load_ad (gN rfl) rfl rfl rfl rfl rfl rfl rfl rfl rfl) rfl ?_)
  (refine nx (a_allocA [2, 2] (gN rfl) rfl rfl rfl rfl rfl rfl rfl) (by kernel_rfl) ?_)
  (refine nx (aSt (gN rfl) rfl rfl rfl rfl rfl rfl rfl rfl rfl rfl) rfl ?_)
  show AWp _ _ _ _ _ _ _
  refine aS (aD (by kernel_rfl) (by kernel_rfl) ?_)
  (refine nx (aM (gN rfl) rfl rfl rfl rfl rfl) rfl ?_)
  (refine nx (aM (gN rfl) rfl rfl rfl rfl rfl) rfl ?_)
  (refine nx (a_idxA 0 (gN rfl) rfl rfl rfl rfl rfl rfl rfl rfl rfl rfl) rfl ?_)
  (refine nx (aLb (gN rfl) rfl rfl rfl rfl rfl rfl rfl rfl rfl rfl rfl rfl) rfl ?_)
  (refine nx (a_callO (gN rfl) rfl rfl rfl rfl rfl (a1) (by repeat (first | exact trivial | refine ⟨rfl, ?_⟩)) (by first | rfl | kernel_rfl) (by first | rfl | kernel_rfl) (by first | rfl | kernel_rfl) (by first | rfl | kernel_rfl) (hnb_of (by first | rfl | kernel_rfl))) rfl ?_)
  (refine nx (aM (gN rfl) rfl rfl rfl rfl rfl) rfl ?_)
  (refine nx (a_idxA 1 (gN rfl) rfl rfl rfl rfl rfl rfl rfl rfl rfl rfl) rfl ?_)
  (refine nx (aLb (gN rfl) rfl rfl rfl rfl rfl rfl rfl rfl rfl rfl rfl rfl) rfl ?_)
  (refine nx (a_callO (gN rfl) rfl rfl rfl rfl rfl (a2) (by repeat (first | exact trivial | refine ⟨rfl, ?_⟩)) (by first | rfl | kernel_rfl) (by first | rfl | kernel_rfl) (by first | rfl | kernel_rfl) (by first | rfl | kernel_rfl) (hnb_of (by first | rfl | kernel_rfl))) rfl ?_)
  (refine nx (a_callO (gN rfl) rfl rfl rfl rfl rfl (a3) (by repeat (first | exact trivial | refine ⟨rfl, ?_⟩)) (by first | rfl | kernel_rfl) (by first | rfl | kernel_rfl) (by first | rfl | kernel_rfl) (by first | rfl | kernel_rfl) (hnb_of (by first | rfl | kernel_rfl))) rfl ?_)
  refine ⟨by kernel_rfl, ?_⟩
  show AWp _ _ _ _ _ _ _
  cases hrun : runC k (openC c p) with
  | none => rw [hrun] at hq; cases hq
  | some qr =>
  rw [hrun] at hq
  simp only at hq
  refine aB (awp_loop (fun j s => ∃ d, runC j d = some qr ∧ Inv d (E ++ [p]) 2000001 ∧ pw d.ns = pw (openC c p).ns ∧ s = (0, AV.bp 350001 0 []) :: (7, .val (.lst (l.map prv))) :: (8, .val (.i (l.map prv).length)) :: (9, .val (.i (i : Int))) :: cstM d) (n := k) (s' := (0, AV.bp 350001 0 []) :: (7, .val (.lst (l.map prv))) :: (8, .val (.i (l.map prv).length)) :: (9, .val (.i (i : Int))) :: cstM (openC c p)) (wk_sub ⟨rfl, rfl, rfl, rfl, rfl, rfl, rfl, rfl, rfl, rfl, rfl, trivial⟩) ⟨openC c p, hrun, hIo, rfl, rfl⟩ ?_)
  rintro j s ⟨d, hd, hId, hpd, rfl⟩
  cases j with
  | zero => cases hd
  | succ j =>
  rw [runC] at hd
  have hdp := hId.ps
  refine aS (aS (aR ?_))
  (refine nx (aM (gN rfl) rfl rfl rfl rfl rfl) rfl ?_)
  (refine nx (aNc (gN rfl) rfl rfl rfl rfl rfl) rfl ?_)
  (refine nx (aF (gN rfl) rfl rfl rfl rfl rfl rfl rfl rfl rfl) rfl ?_)
  (refine nx (aLf (gN rfl) rfl rfl rfl rfl rfl rfl rfl rfl rfl rfl rfl rfl rfl) rfl ?_)
  (refine nx (a_lenM (gN rfl) rfl rfl rfl rfl rfl rfl rfl) rfl ?_)
  (refine nx (a_gtr (gN rfl) rfl rfl rfl rfl rfl rfl) rfl ?_)
  show AWp _ _ _ _ _ _ _
  cases hg : d.ps.getLast? with
  | none =>
    rw [hg] at hd
    simp only at hd
    cases hd
    have hdn : d.ps = [] := List.getLast?_eq_none_iff.1 hg
    refine aC rfl (fun hc => ?_) (fun hc => ?_)
    · exfalso
      rw [hdn] at hc
      simp at hc
    rw [if_pos rfl] at hq
    refine aE ?_
    show AWp _ _ _ _ _ _ _
    refine aR ?_
    (refine nx (a_add (gN rfl) rfl rfl rfl rfl rfl rfl (by first | omega | (simp only [List.length_map, List.length_append, List.length_cons, List.length_nil] <;> omega) | (simp <;> omega))) rfl ?_)
    (refine nx (aM (gN rfl) rfl rfl rfl rfl rfl) rfl ?_)
    have hpw : pw d.ns = pw c.ns + p.1.size + p.2.size := by rw [hpd, pw_open]
    refine ⟨l.length - (i + 1), (0, AV.bp 350001 0 []) :: (7, .val (.lst (l.map prv))) :: (8, .val (.i (l.map prv).length)) :: (9, .val (.i ((i + 1 : Nat) : Int))) :: cstM d, by omega, ⟨i + 1, d, E ++ [p], rfl, by omega, hq, hdn, hId, by omega, rfl⟩, wk_sub ⟨rfl, rfl, rfl, rfl, rfl, rfl, rfl, rfl, rfl, rfl, rfl, trivial⟩⟩
  | some pp =>
    rw [hg] at hd
    simp only at hd
    cases hj : joinC j ⟨d.ns, d.vr, d.ps.dropLast⟩ pp.1 pp.2 with
    | none => rw [hj] at hd; cases hd
    | some qj =>
    rw [hj] at hd
    simp only at hd
    obtain ⟨⟨x1, x2⟩, hInv⟩ := hId.join hg hj
    have hpos : 0 < d.ps.length := by
      cases h : d.ps with
      | nil => rw [h] at hg; cases hg
      | cons a l => simp
    have b1 := uPop_abs d pp hg (by omega)
    have hFd := hId.fit
    have b2 := uJoin_abs j ⟨d.ns, d.vr, d.ps.dropLast⟩ pp.1 pp.2 qj hj x1 x2 ⟨hFd.up, hFd.kid, hFd.trm, hFd.big⟩ (by show d.ps.dropLast.length ≤ _; rw [List.length_dropLast]; omega)
    refine aC rfl (fun hc => ?_) (fun hc => ?_)
    case refine_2 =>
      have : ¬ ((d.ps.length : Int) > 0) := by simpa using hc
      omega
    refine aK ?_
    show AWp _ _ _ _ _ _ _
    refine AWp.wk (wk_sub (s' := (0, AV.bp 350001 0 []) :: (7, .val (.lst (l.map prv))) :: (8, .val (.i (l.map prv).length)) :: (9, .val (.i (i : Int))) :: cstM d) ⟨rfl, rfl, rfl, rfl, rfl, rfl, rfl, rfl, rfl, rfl, rfl, trivial⟩) ?_
    refine aB (aS (aR ?_))
    (refine nx (aM (gN rfl) rfl rfl rfl rfl rfl) rfl ?_)
    (refine nx (aM (gN rfl) rfl rfl rfl rfl rfl) rfl ?_)
    (refine nx (a_callO (gN rfl) rfl rfl rfl rfl rfl (b1) (by repeat (first | exact trivial | refine ⟨rfl, ?_⟩)) (by first | rfl | kernel_rfl) (by first | rfl | kernel_rfl) (by first | rfl | kernel_rfl) (by first | rfl | kernel_rfl) (hnb_of (by first | rfl | kernel_rfl))) rfl ?_)
    (refine nx (aX (gN rfl) rfl rfl rfl rfl rfl rfl) rfl ?_)
    (refine nx (aX (gN rfl) rfl rfl rfl rfl rfl rfl) rfl ?_)
    (refine nx (a_callO (gN rfl) rfl rfl rfl rfl rfl (b2) (by repeat (first | exact trivial | refine ⟨rfl, ?_⟩)) (by first | rfl | kernel_rfl) (by first | rfl | kernel_rfl) (by first | rfl | kernel_rfl) (by first | rfl | kernel_rfl) (hnb_of (by first | rfl | kernel_rfl))) rfl ?_)
    (refine nx (a_not (gN rfl) rfl rfl rfl rfl rfl) rfl ?_)
    show AWp _ _ _ _ _ _ _
    cases hqj : qj.2 with
    | false =>
      rw [hqj, if_neg (by simp)] at hd
      have hd := Option.some.inj hd
      subst hd
      rw [hqj, if_neg (by simp)] at hq
      have hq := Option.some.inj hq
      subst hq
      refine aC rfl (fun hc => ?_) (fun hc => by cases hc)
      refine aS (aR ?_)
      (refine nx (aA (gN rfl) rfl rfl rfl rfl rfl) rfl ?_)
      show AWp _ _ _ _ _ _ _
      rw [hqj]
      exact aT ⟨.inr rfl, _, Wk.refl _, rfl, rfl, rfl, rfl, rfl, rfl, rfl, rfl, trivial⟩
    | true =>
      rw [hqj, if_pos rfl] at hd
      refine aC rfl (fun hc => by cases hc) (fun hc => aK ?_)
      exact ⟨j, _, by omega, ⟨qj.1, hd, hInv hqj, by rw [pw_join hj]; exact hpd, rfl⟩, wk_sub ⟨rfl, rfl, rfl, rfl, rfl, rfl, rfl, rfl, rfl, rfl, rfl, trivial⟩⟩
structure FitU (c : Cl) : Prop where
  up : upOk c.ns
  kid : kidOk c.ns
  trm : trmOk c.ns
  big : pw c.ns ≤ 1000
  vrb : ∀ v m, lookV c.vr v = some m → m < c.ns.length
theorem Inv.fitU {c : Cl} {E} {M : Nat} (h : Inv c E M) : FitU c := by
  have hf := h.fit
  obtain ⟨H, r, h1, _⟩ := h.cls
  exact ⟨hf.up, hf.kid, hf.trm, h.big, fun v m hm => (h1.vrt v m hm).1⟩
def upB (c : Cl) : Prop := upOk c.ns ∧ ∀ v m, lookV c.vr v = some m → m < c.ns.length
theorem upB.add {c : Cl} (h : upB c) (t : Tm) : upB (addC c t) := by
  have hl : (addC c t).ns.length = c.ns.length + 1 := addC_len c t
  have hu : addU c t ≤ c.ns.length := by
    unfold addU
    split
    · cases e : lookV c.vr (-1 - t.f) with
      | none => exact Nat.le_refl _
      | some m => exact Nat.le_of_lt (h.2 _ m e)
    · exact Nat.le_refl _
  refine ⟨fun m hm => ?_, fun v m hm => ?_⟩
  · rw [hl] at hm ⊢
    unfold nU addC
    rcases Nat.lt_or_ge m c.ns.length with h1 | h1
    · simp only
      rw [List.getD_eq_getElem?_getD, List.getElem?_append_left h1, ← List.getD_eq_getElem?_getD]
      have := h.1 m h1
      unfold nU at this
      omega
    · have : m = c.ns.length := by omega
      subst this
      simp only
      rw [getD_end]
      show addU c t < _
      omega
  · rw [hl]
    have hm : lookV (addV c t) v = some m := hm
    unfold addV at hm
    split at hm
    · split at hm
      · have := h.2 v m hm; omega
      · rw [lookV_snoc] at hm
        cases e : lookV c.vr v with
        | some m' => rw [e] at hm; cases hm; have := h.2 v _ e; omega
        | none =>
          rw [e, Option.none_or] at hm
          split at hm
          · cases hm; omega
          · cases hm
    · have := h.2 v m hm; omega
theorem upB.all (l : List Tm) : ∀ {c : Cl}, upB c → upB (addAll c l) := by
  induction l with
  | nil => exact fun h => h
  | cons t l ih => exact fun h => ih (h.add t)
theorem upB.parts {c : Cl} (h : upB c) (n : Nat) : upB (pC c n).1 := by
  unfold pC
  split
  · exact h
  · split
    · refine upB.all _ ⟨fun m hm => ?_, fun v m hm => ?_⟩
      · have hl : (c.setFi n c.ns.length).ns.length = c.ns.length := by unfold Cl.setFi setFi; simp
        rw [hl] at hm ⊢
        have hU : nU (c.setFi n c.ns.length).ns m = nU c.ns m := by
          unfold Cl.setFi setFi nU
          simp only
          rw [List.getD_eq_getElem?_getD, List.getElem?_set]
          split
          · rename_i e
            subst e
            split
            · rfl
            · rename_i h9; exact absurd hm h9
          · rw [← List.getD_eq_getElem?_getD]
        rw [hU]; exact h.1 m hm
      · have := h.2 v m hm
        show m < (setFi c.ns n c.ns.length).length
        unfold setFi
        rw [List.length_set]; exact this
    · exact h
theorem FitU.parts {c : Cl} (h : FitU c) {n : Nat} (hn : n < c.ns.length) : FitU (pC c n).1 := by
  obtain ⟨h1, h2⟩ := upB.parts ⟨h.up, h.vrb⟩ n
  exact ⟨h1, h.kid.parts hn, h.trm.parts hn, by rw [pw_parts]; exact h.big, h2⟩
theorem kidOk.same {ns ns' : List Nd} (h : kidOk ns) (hl : ns'.length = ns.length) (ht : ∀ m, nT ns' m = nT ns m) (hk : ∀ m, nK ns' m = nK ns m) : kidOk ns' := fun n hn hkn i hi => by
  rw [hl] at hn ⊢
  rw [hk] at hkn ⊢
  rw [ht] at hi
  exact h n hn hkn i hi
theorem FitU.head {k : Nat} {ns : List Nd} {vr ps} {n : Nat} {r} (h : FitU ⟨ns, vr, ps⟩) (hn : n < ns.length) (hd : headC k ns n = some r) : FitU ⟨r.1, vr, ps⟩ ∧ r.1.length = ns.length ∧ r.2 < ns.length := by
  obtain ⟨a1, a2, a3, a4, a5⟩ := headC_keep k hd h.up hn
  exact ⟨⟨a1, h.kid.same a2 a4 a5, h.trm.same a2 a4, by show pw r.1 ≤ 1000; rw [pw_same a2 a4 a5]; exact h.big, fun v m hm => by show m < r.1.length; rw [a2]; exact h.vrb v m hm⟩, a2, a3⟩
theorem nU_us {ns : List Nd} {n : Nat} {x : Int} (m : Nat) : nU (setUs ns n x) m = nU ns m := by
  unfold nU setUs
  rw [List.getD_eq_getElem?_getD, List.getElem?_set]
  split
  · rename_i e
    subst e
    split
    · rfl
    · rename_i h9
      rw [List.getD_eq_getElem?_getD, List.getElem?_eq_none (by omega)]
  · rw [← List.getD_eq_getElem?_getD]
theorem setUsLen (ns : List Nd) (n : Nat) (x : Int) : (setUs ns n x).length = ns.length := by unfold setUs; simp
theorem FitU.us {ns : List Nd} {vr ps} (h : FitU ⟨ns, vr, ps⟩) (n : Nat) (x : Int) : FitU ⟨setUs ns n x, vr, ps⟩ := by
  have hl := setUsLen ns n x
  exact ⟨fun m hm => by show nU (setUs ns n x) m < (setUs ns n x).length; rw [nU_us, hl]; exact h.up m (by have : m < (setUs ns n x).length := hm; rw [hl] at this; exact this), h.kid.same hl tk_us.1 tk_us.2, h.trm.same hl tk_us.1, by show pw (setUs ns n x) ≤ 1000; rw [pw_us]; exact h.big, fun v m hm => by show m < (setUs ns n x).length; rw [hl]; exact h.vrb v m hm⟩
def usB (ns : List Nd) (B : Int) : Prop := ∀ m, -B ≤ nS ns m ∧ nS ns m ≤ B
theorem nS_up9 {ns : List Nd} {n k : Nat} (m : Nat) : nS (setUp ns n k) m = nS ns m := by
  unfold nS setUp
  rw [List.getD_eq_getElem?_getD, List.getElem?_set]
  split
  · rename_i e
    subst e
    split
    · rfl
    · rename_i h9
      rw [List.getD_eq_getElem?_getD, List.getElem?_eq_none (by omega)]
  · rw [← List.getD_eq_getElem?_getD]
theorem headC_us : ∀ (k : Nat) {ns : List Nd} {n : Nat} {r}, headC k ns n = some r → ∀ m, nS r.1 m = nS ns m
  | 0, _, _, _, e => by cases e
  | k + 1, ns, n, r, e => fun m => by
    rw [headC] at e
    split at e
    · cases e; rfl
    · rw [headC_us k e m, nS_up9]
theorem usB.head {k : Nat} {ns : List Nd} {n : Nat} {r} {B : Int} (h : usB ns B) (hd : headC k ns n = some r) : usB r.1 B := fun m => by rw [headC_us k hd]; exact h m
theorem usB.set {ns : List Nd} {B : Int} (h : usB ns B) {n : Nat} {x : Int} (hx : -(B + 1) ≤ x ∧ x ≤ B + 1) : usB (setUs ns n x) (B + 1) := fun m => by
  have h1 := h m
  unfold nS setUs at *
  rw [List.getD_eq_getElem?_getD, List.getElem?_set]
  split
  · split
    · exact hx
    · show _ ≤ (0 : Int) ∧ (0 : Int) ≤ _; omega
  · rw [← List.getD_eq_getElem?_getD]; omega
theorem usB.mono {ns : List Nd} {B B' : Int} (h : usB ns B) (hb : B ≤ B') : usB ns B' := fun m => by have := h m; omega
theorem nS_addC {c : Cl} {t : Tm} {B : Int} (h : usB c.ns B) (hB : 0 ≤ B) : usB (addC c t).ns B := fun m => by
  unfold nS addC
  simp only
  rw [List.getD_eq_getElem?_getD]
  rcases Nat.lt_trichotomy m c.ns.length with h1 | h1 | h1
  · rw [List.getElem?_append_left h1, ← List.getD_eq_getElem?_getD]; exact h m
  · subst h1; rw [List.getElem?_append_right (Nat.le_refl _), Nat.sub_self]; show _ ≤ (0 : Int) ∧ (0 : Int) ≤ _; omega
  · rw [List.getElem?_eq_none (by simp; omega)]; show _ ≤ (0 : Int) ∧ (0 : Int) ≤ _; omega
theorem usB.parts {c : Cl} {B : Int} (h : usB c.ns B) (hB : 0 ≤ B) (n : Nat) : usB (pC c n).1.ns B := by
  have hall : ∀ (l : List Tm) (c : Cl), usB c.ns B → usB (addAll c l).ns B := by
    intro l
    induction l with
    | nil => exact fun c h => h
    | cons t l ih => exact fun c h => ih _ (nS_addC h hB)
  unfold pC
  split
  · exact h
  · split
    · refine hall _ _ fun m => ?_
      have : nS (c.setFi n c.ns.length).ns m = nS c.ns m := by
        unfold Cl.setFi setFi nS
        simp only
        rw [List.getD_eq_getElem?_getD, List.getElem?_set]
        split
        · rename_i e
          subst e
          split
          · rfl
          · rename_i h9
            rw [List.getD_eq_getElem?_getD, List.getElem?_eq_none (by omega)]
        · rw [← List.getD_eq_getElem?_getD]
      rw [this]; exact h m
    · exact h
theorem setUs_at {ns : List Nd} {n : Nat} {k : Int} {x : Nd} (h : ns[n]? = some x) : (setUs ns n k)[n]? = some { x with us := k } := by
  unfold setUs
  have hl : n < ns.length := (List.getElem?_eq_some_iff.1 h).1
  rw [List.getElem?_set_self hl, getD_at h]
noncomputable abbrev intsV (l : List Nat) : CV := .lst (l.map fun n : Nat => CV.i (n : Int))
theorem nats_size (l : List Nat) : ∀ c ∈ l.map (fun n : Nat => CV.i (n : Int)), c.size = 1 := fun c hc => by
  obtain ⟨n, _, rfl⟩ := List.mem_map.1 hc
  rfl
-- 
set_option maxHeartbeats 8000000 in
theorem uCount_abs (k j0 : Nat) (c0 : Cl) (q : Cl × List Nat) (hq : countC k j0 0 c0 [] = some q) (hF0 : FitU c0) (hu0 : usB c0.ns 0) : AFunO Tryz.prog 154 (cstM c0) [.bp 350001 0 []] (.val (intsV q.2)) (cstM q.1) := by
  refine afunO_of Tryz.func154 Tryz.ntmps154 rfl rfl rfl rfl rfl rfl ?_
  intro w U hU
  refine aS (aR ?_)
  (refine nx (aA (gN rfl) rfl rfl rfl rfl rfl) rfl ?_)
  show AWp _ _ _ _ _ _ _
  refine aS (aR ?_)
  (refine nx (aA (gN rfl) rfl rfl rfl rfl rfl) rfl ?_)
  show AWp _ _ _ _ _ _ _
  refine aS (aS (aR ?_))
  (refine nx (aA (gN rfl) rfl rfl rfl rfl rfl) rfl ?_)
  show AWp _ _ _ _ _ _ _
  refine aB (awp_loop (fun j s => ∃ n c hs, countC k j n c hs = some q ∧ FitU c ∧ usB c.ns ((n : Int) * 1000) ∧ n ≤ 1000 ∧ hs.length ≤ n ∧ s = (0, AV.bp 350001 0 []) :: (3, .own (intsV hs) 200025) :: (200025, .tok 3 1) :: (4, .val (.i (n : Int))) :: cstM c) (n := j0) (s' := (0, AV.bp 350001 0 []) :: (3, .own (intsV []) 200025) :: (200025, .tok 3 1) :: (4, .val (.i ((0 : Nat) : Int))) :: cstM c0) ((wk_nil 3 200025 3 1 rfl rfl rfl rfl rfl rfl (by kernel_rfl)).trans (wk_sub ⟨rfl, rfl, rfl, rfl, rfl, rfl, rfl, rfl, rfl, rfl, rfl, trivial⟩)) ⟨0, c0, [], hq, hF0, by simpa using hu0, by omega, Nat.le_refl _, rfl⟩ ?_)
  rintro j s ⟨n, c, hs, hq, hF, hu, hn, hsl, rfl⟩
  cases j with
  | zero => cases hq
  | succ j =>
  rw [countC] at hq
  have hl : c.ns.length ≤ 1000 := Nat.le_trans (len_pw _) hF.big
  refine aS (aS (aR ?_))
  (refine nx (aM (gN rfl) rfl rfl rfl rfl rfl) rfl ?_)
  (refine nx (aM (gN rfl) rfl rfl rfl rfl rfl) rfl ?_)
  (refine nx (aNc (gN rfl) rfl rfl rfl rfl rfl) rfl ?_)
  (refine nx (aF (gN rfl) rfl rfl rfl rfl rfl rfl rfl rfl rfl) rfl ?_)
  (refine nx (aLf (gN rfl) rfl rfl rfl rfl rfl rfl rfl rfl rfl rfl rfl rfl rfl) rfl ?_)
  (refine nx (a_lenM (gN rfl) rfl rfl rfl rfl rfl rfl rfl) rfl ?_)
  (refine nx (a_lss (gN rfl) rfl rfl rfl rfl rfl rfl) rfl ?_)
  show AWp _ _ _ _ _ _ _
  by_cases hlt : n < c.ns.length
  case neg =>
    rw [if_neg hlt] at hq
    have hq := Option.some.inj hq
    subst hq
    refine aC rfl (fun hc => ?_) (fun hc => ?_)
    · exfalso
      have : (n : Int) < c.ns.length := by simpa using hc
      omega
    refine aE ?_
    show AWp _ _ _ _ _ _ _
    refine aS (aR ?_)
    (refine nx (aM (gN rfl) rfl rfl rfl rfl rfl) rfl ?_)
    (refine nx (aA (gN rfl) rfl rfl rfl rfl rfl) rfl ?_)
    show AWp _ _ _ _ _ _ _
    exact aT ⟨.inr rfl, _, Wk.refl _, rfl, rfl, rfl, rfl, rfl, rfl, rfl, rfl, trivial⟩
  rw [if_pos hlt] at hq
  refine aC rfl (fun hc => ?_) (fun hc => ?_)
  case refine_2 =>
    have : ¬ (n : Int) < c.ns.length := by simpa using hc
    omega
  refine aK ?_
  show AWp _ _ _ _ _ _ _
  cases hd : headC k c.ns n with
  | none => rw [hd] at hq; cases hq
  | some r =>
  rw [hd] at hq
  simp only at hq
  have hdc := uHead_abs c.vr c.ps k c.ns n r hd hF.up hlt (by omega)
  obtain ⟨hF1, hl1, hr1⟩ := FitU.head (vr := c.vr) (ps := c.ps) hF hlt hd
  have hu1 := hu.head hd
  refine AWp.wk ((wk_sub (s' := (0, AV.bp 350001 0 []) :: (3, .own (intsV hs) 200025) :: (200025, .tok 3 1) :: (4, .val (.i (n : Int))) :: cstM c) ⟨rfl, rfl, rfl, rfl, rfl, rfl, rfl, rfl, rfl, rfl, rfl, trivial⟩).trans (wk_renF 300001 400001 rfl rfl (hUno hU (by kernel_rfl)) (by kernel_rfl) (by kernel_rfl) (by kernel_rfl))) ?_
  refine aS (aB (aS (aS (aR ?_))))
  (refine nx (aM (gN rfl) rfl rfl rfl rfl rfl) rfl ?_)
  (refine nx (aM (gN rfl) rfl rfl rfl rfl rfl) rfl ?_)
  (refine nx (a_callO (gN rfl) rfl rfl rfl rfl rfl (hdc) (by repeat (first | exact trivial | refine ⟨rfl, ?_⟩)) (by first | rfl | kernel_rfl) (by first | rfl | kernel_rfl) (by first | rfl | kernel_rfl) (by first | rfl | kernel_rfl) (hnb_of (by first | rfl | kernel_rfl))) rfl ?_)
  (refine nx (aM (gN rfl) rfl rfl rfl rfl rfl) rfl ?_)
  (refine nx (a_neq (gN rfl) rfl rfl rfl rfl rfl rfl) rfl ?_)
  show AWp _ _ _ _ _ _ _
  obtain ⟨c1, hc1⟩ : ∃ c1 : Cl, c1 = ⟨r.1, c.vr, c.ps⟩ := ⟨_, rfl⟩
  rw [← hc1] at hq hF1 ⊢
  have hl1' : c1.ns.length = c.ns.length := by rw [hc1]; exact hl1
  have hu1 : usB c1.ns ((n : Int) * 1000) := by rw [hc1]; exact hu1
  by_cases he : r.2 = n
  case neg =>
    rw [if_pos he] at hq
    refine aC rfl (fun hc => ?_) (fun hc => ?_)
    case refine_2 =>
      have hc := of_decide_eq_false hc
      simp only [ne_eq, Decidable.not_not] at hc
      omega
    refine aE ?_
    show AWp _ _ _ _ _ _ _
    refine aR ?_
    (refine nx (aM (gN rfl) rfl rfl rfl rfl rfl) rfl ?_)
    (refine nx (a_add (gN rfl) rfl rfl rfl rfl rfl rfl (by first | omega | (simp only [List.length_map, List.length_append, List.length_cons, List.length_nil] <;> omega) | (simp <;> omega))) rfl ?_)
    (refine nx (aA (gN rfl) rfl rfl rfl rfl rfl) rfl ?_)
    refine ⟨j, (0, AV.bp 350001 0 []) :: (3, .own (intsV hs) 200025) :: (200025, .tok 3 1) :: (4, .val (.i ((n + 1 : Nat) : Int))) :: cstM c1, by omega, ⟨n + 1, c1, hs, hq, hF1, hu1.mono (by omega), by omega, by omega, rfl⟩, (wk_sub (s' := (0, AV.bp 350001 0 []) :: (3, .own (intsV hs) 200025) :: (200025, .tok 3 1) :: (4, .val (.i ((n + 1 : Nat) : Int))) :: cstF c1) ⟨rfl, rfl, rfl, rfl, rfl, rfl, rfl, rfl, rfl, rfl, rfl, trivial⟩).trans (wk_renF 400001 300001 rfl rfl (hUlow U (by decide)) (by kernel_rfl) (by kernel_rfl) (by kernel_rfl))⟩
  rw [if_neg (by simpa using he)] at hq
  refine aC rfl (fun hc => ?_) (fun hc => aK ?_)
  · exfalso
    rw [he] at hc
    simp at hc
  show AWp _ _ _ _ _ _ _
  have hn1 : n < c1.ns.length := by omega
  have hFp := hF1.parts hn1
  have hup := hu1.parts (by omega) n
  have hlp : (pC c1 n).1.ns.length ≤ 1000 := Nat.le_trans (len_pw _) hFp.big
  have hpc := uParts_abs c1 n hn1 hF1.trm (by omega) (hF1.kid.fi hn1 (by omega))
  obtain ⟨c2, hc2⟩ : ∃ c2, c2 = (pC c1 n).1 := ⟨_, rfl⟩
  obtain ⟨fr, hfr⟩ : ∃ x, x = (pC c1 n).2.1 := ⟨_, rfl⟩
  obtain ⟨to, hto⟩ : ∃ x, x = (pC c1 n).2.2 := ⟨_, rfl⟩
  have hft : fr ≤ to := by rw [hfr, hto]; exact parts_pos.1
  have htl : to ≤ c2.ns.length := by rw [hto, hc2]; exact snd_le hF1.kid hn1
  rw [← hc2] at hq hFp hup hlp hpc
  rw [← hfr, ← hto] at hq hpc
  refine AWp.wk ((wk_sub (s' := (0, AV.bp 350001 0 []) :: (3, .own (intsV hs) 200025) :: (200025, .tok 3 1) :: (4, .val (.i (n : Int))) :: cstF c1) ⟨rfl, rfl, rfl, rfl, rfl, rfl, rfl, rfl, rfl, rfl, rfl, trivial⟩).trans (wk_renF 400001 300001 rfl rfl (hUlow U (by decide)) (by kernel_rfl) (by kernel_rfl) (by kernel_rfl))) ?_
  have hss := nats_size hs
  refine aS (aR ?_)
  (refine nx (aM (gN rfl) rfl rfl rfl rfl rfl) rfl ?_)
  (refine nx (aM (gN rfl) rfl rfl rfl rfl rfl) rfl ?_)
  (refine nx (a_bslice (gN rfl) rfl rfl rfl rfl rfl rfl rfl rfl rfl rfl rfl rfl rfl) rfl ?_)
  (refine nx (a_app (gN rfl) rfl rfl rfl rfl rfl rfl rfl rfl rfl rfl rfl rfl rfl rfl rfl (by first | assumption | exact sZ rfl | exact Tm.size_all _ | exact Bd.size_all _ | exact ints_size _ | exact bys_size _ | exact Lt.size_all _) (by first | assumption | exact sZ rfl | exact Tm.size_all _ | exact Bd.size_all _ | exact ints_size _ | exact bys_size _ | exact Lt.size_all _) (by first | omega | (simp only [List.length_map, List.length_append, List.length_cons, List.length_nil] <;> omega) | (simp <;> omega))) (by kernel_rfl) ?_)
  (refine nx (aA (gN rfl) rfl rfl rfl rfl rfl) rfl ?_)
  show AWp _ _ _ _ _ _ _
  refine AWp.wk ((wk_sub (s' := (0, AV.bp 350001 0 []) :: (3, .own (intsV (hs ++ [n])) 300025) :: (300025, .tok 3 1) :: (4, .val (.i (n : Int))) :: cstM c1) ⟨rfl, ?_, rfl, rfl, rfl, rfl, rfl, rfl, rfl, rfl, rfl, trivial⟩).trans (wk_ren 300025 200025 rfl rfl (by kernel_rfl) (by kernel_rfl))) ?_
  · show _ = some (AV.own (.lst ((hs ++ [n]).map fun n : Nat => CV.i (n : Int))) 300025)
    rw [List.map_append]; rfl
  refine aS (aR ?_)
  (refine nx (aM (gN rfl) rfl rfl rfl rfl rfl) rfl ?_)
  (refine nx (aM (gN rfl) rfl rfl rfl rfl rfl) rfl ?_)
  (refine nx (a_callO (gN rfl) rfl rfl rfl rfl rfl (hpc) (by repeat (first | exact trivial | refine ⟨rfl, ?_⟩)) (by first | rfl | kernel_rfl) (by first | rfl | kernel_rfl) (by first | rfl | kernel_rfl) (by first | rfl | kernel_rfl) (hnb_of (by first | rfl | kernel_rfl))) rfl ?_)
  (refine nx (aM (gN rfl) rfl rfl rfl rfl rfl) rfl ?_)
  (refine nx (aX (gN rfl) rfl rfl rfl rfl rfl rfl) rfl ?_)
  (refine nx (aX (gN rfl) rfl rfl rfl rfl rfl rfl) rfl ?_)
  (refine nx (aA (gN rfl) rfl rfl rfl rfl rfl) rfl ?_)
  (refine nx (aA (gN rfl) rfl rfl rfl rfl rfl) rfl ?_)
  show AWp _ _ _ _ _ _ _
  refine aS (aR ?_)
  (refine nx (aM (gN rfl) rfl rfl rfl rfl rfl) rfl ?_)
  (refine nx (aA (gN rfl) rfl rfl rfl rfl rfl) rfl ?_)
  show AWp _ _ _ _ _ _ _
  cases hus : useC k (List.range' fr (to - fr)) c2.ns with
  | none => rw [hus] at hq; cases hq
  | some ns =>
  rw [hus] at hq
  simp only at hq
  refine aB (awp_loop (fun m s => ∃ i ns1, i + m = to - fr ∧ useC k (List.range' (fr + i) m) ns1 = some ns ∧ FitU ⟨ns1, c2.vr, c2.ps⟩ ∧ ns1.length = c2.ns.length ∧ usB ns1 ((n : Int) * 1000 + i) ∧ s = (0, AV.bp 350001 0 []) :: (3, .own (intsV (hs ++ [n])) 200025) :: (200025, .tok 3 1) :: (4, .val (.i (n : Int))) :: (6, .val (.i (to : Int))) :: (7, .val (.i ((fr + i : Nat) : Int))) :: cstF ⟨ns1, c2.vr, c2.ps⟩) (n := to - fr) (s' := (0, AV.bp 350001 0 []) :: (3, .own (intsV (hs ++ [n])) 200025) :: (200025, .tok 3 1) :: (4, .val (.i (n : Int))) :: (6, .val (.i (to : Int))) :: (7, .val (.i ((fr + 0 : Nat) : Int))) :: cstF ⟨c2.ns, c2.vr, c2.ps⟩) ((wk_sub (s' := (0, AV.bp 350001 0 []) :: (3, .own (intsV (hs ++ [n])) 200025) :: (200025, .tok 3 1) :: (4, .val (.i (n : Int))) :: (6, .val (.i (to : Int))) :: (7, .val (.i ((fr + 0 : Nat) : Int))) :: cstM c2) ⟨rfl, rfl, rfl, rfl, rfl, rfl, rfl, rfl, rfl, rfl, rfl, rfl, rfl, trivial⟩).trans (wk_renF 300001 400001 rfl rfl (hUno hU (by kernel_rfl)) (by kernel_rfl) (by kernel_rfl) (by kernel_rfl))) ⟨0, c2.ns, by omega, hus, hFp, rfl, hup.mono (by omega), rfl⟩ ?_)
  rintro m s ⟨i, ns1, him, hu1, hF3, hl3, hb3, rfl⟩
  refine aS (aS (aR ?_))
  (refine nx (aM (gN rfl) rfl rfl rfl rfl rfl) rfl ?_)
  (refine nx (aM (gN rfl) rfl rfl rfl rfl rfl) rfl ?_)
  (refine nx (a_lss (gN rfl) rfl rfl rfl rfl rfl rfl) rfl ?_)
  show AWp _ _ _ _ _ _ _
  cases m with
  | zero =>
    have hus1 : some ns1 = some ns := hu1
    have hus1 := Option.some.inj hus1
    subst hus1
    refine aC rfl (fun hc => ?_) (fun hc => ?_)
    · exfalso
      have : ((fr + i : Nat) : Int) < to := by simpa using hc
      omega
    refine aE ?_
    show AWp _ _ _ _ _ _ _
    refine aR ?_
    (refine nx (aM (gN rfl) rfl rfl rfl rfl rfl) rfl ?_)
    (refine nx (a_add (gN rfl) rfl rfl rfl rfl rfl rfl (by first | omega | (simp only [List.length_map, List.length_append, List.length_cons, List.length_nil] <;> omega) | (simp <;> omega))) rfl ?_)
    (refine nx (aA (gN rfl) rfl rfl rfl rfl rfl) rfl ?_)
    refine ⟨j, (0, AV.bp 350001 0 []) :: (3, .own (intsV (hs ++ [n])) 200025) :: (200025, .tok 3 1) :: (4, .val (.i ((n + 1 : Nat) : Int))) :: cstM ⟨ns1, c2.vr, c2.ps⟩, by omega, ⟨n + 1, ⟨ns1, c2.vr, c2.ps⟩, hs ++ [n], hq, hF3, hb3.mono (by omega), by omega, by rw [List.length_append]; simp only [List.length_cons, List.length_nil]; omega, rfl⟩, (wk_sub (s' := (0, AV.bp 350001 0 []) :: (3, .own (intsV (hs ++ [n])) 200025) :: (200025, .tok 3 1) :: (4, .val (.i ((n + 1 : Nat) : Int))) :: cstF ⟨ns1, c2.vr, c2.ps⟩) ⟨rfl, rfl, rfl, rfl, rfl, rfl, rfl, rfl, rfl, rfl, rfl, trivial⟩).trans (wk_renF 400001 300001 rfl rfl (hUlow U (by decide)) (by kernel_rfl) (by kernel_rfl) (by kernel_rfl))⟩
  | succ m =>
    have hp1 : fr + i < ns1.length := by omega
    rw [List.range'_succ, useC] at hu1
    cases hd2 : headC k ns1 (fr + i) with
    | none => rw [hd2] at hu1; cases hu1
    | some r2 =>
    rw [hd2] at hu1
    simp only at hu1
    obtain ⟨hF4, hl4, hr4⟩ := FitU.head hF3 hp1 hd2
    have hb4 := hb3.head hd2
    have hdc2 := uHead_abs c2.vr c2.ps k ns1 (fr + i) r2 hd2 hF3.up hp1 (by omega)
    have hcst : cstF ⟨r2.1, c2.vr, c2.ps⟩ = [(450001, .obj), (35500100, .sl 400001 0 ns1.length 5), (35500101, .mref 300003), (35500102, .sl 300002 0 c2.ps.length 2), (400001, .mrow 194 5 (r2.1.map Nd.cv)), (300003, .mp (c2.vr.map vrv)), (300002, .mrow 207 2 (c2.ps.map psv))] := by simp only [cstF, hl4]
    rw [hcst] at hdc2
    obtain ⟨y, hy⟩ := nd_at (ns := r2.1) (n := r2.2) (by omega)
    have hy' := Nd.map_at hy
    have hlm : (r2.1.map Nd.cv).length = r2.1.length := List.length_map ..
    have hys : nS r2.1 r2.2 = y.us := by unfold nS; rw [getD_at hy]
    have hyb := hb4 r2.2
    rw [hys] at hyb hu1
    refine aC rfl (fun hc => ?_) (fun hc => ?_)
    case refine_2 =>
      have : ¬ ((fr + i : Nat) : Int) < to := by simpa using hc
      omega
    refine aK ?_
    show AWp _ _ _ _ _ _ _
    refine aS (aB (aD (by kernel_rfl) (by kernel_rfl) ?_))
    (refine nx (aM (gN rfl) rfl rfl rfl rfl rfl) rfl ?_)
    (refine nx (aNc (gN rfl) rfl rfl rfl rfl rfl) rfl ?_)
    (refine nx (aF (gN rfl) rfl rfl rfl rfl rfl rfl rfl rfl rfl) rfl ?_)
    (refine nx (aLf (gN rfl) rfl rfl rfl rfl rfl rfl rfl rfl rfl rfl rfl rfl rfl) rfl ?_)
    (refine nx (aM (gN rfl) rfl rfl rfl rfl rfl) rfl ?_)
    (refine nx (aM (gN rfl) rfl rfl rfl rfl rfl) rfl ?_)
    (refine nx (a_callOU ([(400001, .mrow 194 5 (r2.1.map Nd.cv))]) (gN rfl) rfl rfl rfl rfl rfl (hdc2) (by repeat (first | exact trivial | refine ⟨rfl, ?_⟩)) (by first | rfl | kernel_rfl) (by first | rfl | kernel_rfl) (by first | rfl | kernel_rfl) (by first | rfl | kernel_rfl) (hnb_of (by first | rfl | kernel_rfl)) (by repeat (first | exact trivial | refine ⟨rfl, ?_⟩)) (by repeat (first | exact trivial | refine ⟨.inl rfl, ?_⟩ | refine ⟨.inr rfl, ?_⟩)) (by first | rfl | kernel_rfl) (by first | rfl | kernel_rfl)) rfl ?_)
    (refine nx (aIm (k := r2.2) (gN rfl) rfl rfl rfl rfl rfl rfl rfl rfl rfl (by first | rfl | omega | (simp only [List.length_set, List.length_map, List.length_append, List.length_cons, List.length_nil] <;> omega) | (simp <;> omega))) rfl ?_)
    (refine nx (a_fieldM (gN rfl) rfl rfl rfl rfl rfl rfl rfl rfl rfl) rfl ?_)
    (refine nx (a_loadM (gN rfl) rfl rfl rfl rfl rfl rfl rfl rfl (hy') rfl (by first | rfl | omega | (simp only [List.length_set, List.length_map, List.length_append, List.length_cons, List.length_nil] <;> omega) | (simp <;> omega)) rfl rfl) rfl ?_)
    (refine nx (a_add (gN rfl) rfl rfl rfl rfl rfl rfl (by first | omega | (simp only [List.length_map, List.length_append, List.length_cons, List.length_nil] <;> omega) | (simp <;> omega))) rfl ?_)
    (refine nx (aIm (k := r2.2) (gN rfl) rfl rfl rfl rfl rfl rfl rfl rfl rfl (by first | rfl | omega | (simp only [List.length_set, List.length_map, List.length_append, List.length_cons, List.length_nil] <;> omega) | (simp <;> omega))) rfl ?_)
    (refine nx (a_fieldM (gN rfl) rfl rfl rfl rfl rfl rfl rfl rfl rfl) rfl ?_)
    (refine nx (a_storeM (gN rfl) rfl rfl rfl rfl rfl rfl (hy') rfl rfl (by first | rfl | omega | (simp only [List.length_set, List.length_map, List.length_append, List.length_cons, List.length_nil] <;> omega) | (simp <;> omega)) rfl) rfl ?_)
    refine ⟨by kernel_rfl, ?_⟩
    show AWp _ _ _ _ _ _ _
    refine aR ?_
    (refine nx (aM (gN rfl) rfl rfl rfl rfl rfl) rfl ?_)
    (refine nx (a_add (gN rfl) rfl rfl rfl rfl rfl rfl (by first | omega | (simp only [List.length_map, List.length_append, List.length_cons, List.length_nil] <;> omega) | (simp <;> omega))) rfl ?_)
    (refine nx (aA (gN rfl) rfl rfl rfl rfl rfl) rfl ?_)
    refine ⟨m, (0, AV.bp 350001 0 []) :: (3, .own (intsV (hs ++ [n])) 200025) :: (200025, .tok 3 1) :: (4, .val (.i (n : Int))) :: (6, .val (.i (to : Int))) :: (7, .val (.i ((fr + (i + 1) : Nat) : Int))) :: cstF ⟨setUs r2.1 r2.2 (y.us + 1), c2.vr, c2.ps⟩, by omega, ⟨i + 1, setUs r2.1 r2.2 (y.us + 1), by omega, by rw [← Nat.add_assoc]; exact hu1, hF4.us _ _, by rw [setUsLen]; omega, (hb4.set (by omega)).mono (by omega), rfl⟩, wk_sub ⟨rfl, rfl, rfl, rfl, rfl, rfl, rfl, ?_, rfl, rfl, ?_, rfl, rfl, trivial⟩⟩
    · show _ = some (AV.sl 400001 0 (setUs r2.1 r2.2 (y.us + 1)).length 5); rw [setUsLen, hl4]; rfl
    · show _ = some (AV.mrow 194 5 ((setUs r2.1 r2.2 (y.us + 1)).map Nd.cv)); rw [map_setUs hy]; rfl
theorem useC_keep {k : Nat} {vr ps} : ∀ (l : List Nat) {ns ns' : List Nd} {B : Int}, useC k l ns = some ns' → FitU ⟨ns, vr, ps⟩ → (∀ p ∈ l, p < ns.length) → usB ns B → FitU ⟨ns', vr, ps⟩ ∧ ns'.length = ns.length ∧ usB ns' (B + l.length)
  | [], ns, ns', B, e, h, _, hb => by cases e; exact ⟨h, rfl, hb.mono (by simp)⟩
  | p :: l, ns, ns', B, e, h, hl, hb => by
    rw [useC] at e
    cases hd : headC k ns p with
    | none => rw [hd] at e; cases e
    | some r =>
      rw [hd] at e
      simp only at e
      obtain ⟨h1, h2, h3⟩ := h.head (hl p (by simp)) hd
      have hb1 := hb.head hd
      have hb2 := hb1 r.2
      obtain ⟨g1, g2, g3⟩ := useC_keep l e (h1.us _ _) (fun q hq => by rw [setUsLen, h2]; exact hl q (List.mem_cons_of_mem _ hq)) (hb1.set (by omega))
      exact ⟨g1, by rw [g2, setUsLen, h2], g3.mono (by simp only [List.length_cons]; omega)⟩
theorem countC_keep {k : Nat} : ∀ (j n : Nat) {c : Cl} {hs : List Nat} {q}, countC k j n c hs = some q → FitU c → usB c.ns ((n : Int) * 1000) → n ≤ 1000 → (∀ h ∈ hs, h < c.ns.length) → hs.length ≤ n → FitU q.1 ∧ usB q.1.ns 1000000 ∧ (∀ h ∈ q.2, h < q.1.ns.length) ∧ q.2.length ≤ 1000
  | 0, _, _, _, _, e, _, _, _, _, _ => by cases e
  | j + 1, n, c, hs, q, e, hF, hu, hn, hh, hl => by
    have hl0 : c.ns.length ≤ 1000 := Nat.le_trans (len_pw _) hF.big
    rw [countC] at e
    split at e
    · rename_i hlt
      cases hd : headC k c.ns n with
      | none => rw [hd] at e; cases e
      | some r =>
        rw [hd] at e
        simp only at e
        obtain ⟨h1, h2, h3⟩ := FitU.head (vr := c.vr) (ps := c.ps) hF hlt hd
        have hu1 := hu.head hd
        split at e
        · exact countC_keep j (n + 1) e h1 (hu1.mono (by omega)) (by omega) (fun h hm => by show h < r.1.length; rw [h2]; exact hh h hm) (by omega)
        · have hn1 : n < r.1.length := by omega
          obtain ⟨c1, hc1⟩ : ∃ c1 : Cl, c1 = ⟨r.1, c.vr, c.ps⟩ := ⟨_, rfl⟩
          rw [← hc1] at e h1
          have hn1 : n < c1.ns.length := by rw [hc1]; exact hn1
          have hp := h1.parts hn1
          have hu2 : usB c1.ns ((n : Int) * 1000) := by rw [hc1]; exact hu1
          have hup := hu2.parts (by omega) n
          have hlp : (pC c1 n).1.ns.length ≤ 1000 := Nat.le_trans (len_pw _) hp.big
          have hsn := snd_le h1.kid hn1
          cases hus : useC k (List.range' (pC c1 n).2.1 ((pC c1 n).2.2 - (pC c1 n).2.1)) (pC c1 n).1.ns with
          | none => rw [hus] at e; cases e
          | some ns =>
            rw [hus] at e
            simp only at e
            obtain ⟨g1, g2, g3⟩ := useC_keep (vr := (pC c1 n).1.vr) (ps := (pC c1 n).1.ps) _ hus hp (fun p hp2 => by rw [List.mem_range'_1] at hp2; omega) hup
            rw [List.length_range'] at g3
            have hge : c1.ns.length ≤ (pC c1 n).1.ns.length := parts_len
            refine countC_keep j (n + 1) e g1 (g3.mono (by omega)) (by omega) (fun h hm => ?_) (by rw [List.length_append]; simp only [List.length_cons, List.length_nil]; omega)
            show h < ns.length
            rw [g2]
            have : c1.ns.length = c.ns.length := by rw [hc1]; exact h2
            rcases List.mem_append.1 hm with hm | hm
            · have := hh h hm; omega
            · rw [List.mem_singleton] at hm; omega
    · cases e
      exact ⟨hF, hu.mono (by omega), hh, by show hs.length ≤ 1000; omega⟩
theorem downC_keep {k : Nat} {vr ps} : ∀ (l : List Nat) {ns : List Nd} {o : List Nat} {q} {B : Int}, downC k l ns o = some q → FitU ⟨ns, vr, ps⟩ → (∀ p ∈ l, p < ns.length) → usB ns B → (∀ h ∈ o, h < ns.length) → FitU ⟨q.1, vr, ps⟩ ∧ q.1.length = ns.length ∧ usB q.1 (B + l.length) ∧ o.length ≤ q.2.length ∧ ∀ h ∈ q.2, h < ns.length
  | [], ns, o, q, B, e, h, _, hb, ho => by cases e; exact ⟨h, rfl, hb.mono (by simp), Nat.le_refl _, ho⟩
  | p :: l, ns, o, q, B, e, h, hl, hb, ho => by
    rw [downC] at e
    cases hd : headC k ns p with
    | none => rw [hd] at e; cases e
    | some r =>
      rw [hd] at e
      simp only at e
      obtain ⟨h1, h2, h3⟩ := h.head (hl p (by simp)) hd
      have hb1 := hb.head hd
      have hb2 := hb1 r.2
      obtain ⟨g1, g2, g3, g4, g5⟩ := downC_keep l e (h1.us _ _) (fun q hq => by rw [setUsLen, h2]; exact hl q (List.mem_cons_of_mem _ hq)) (hb1.set (by omega)) (fun x hx => by
        rw [setUsLen, h2]
        split at hx
        · rcases List.mem_append.1 hx with hx | hx
          · exact ho x hx
          · rw [List.mem_singleton] at hx; omega
        · exact ho x hx)
      refine ⟨g1, by rw [g2, setUsLen, h2], g3.mono (by simp only [List.length_cons]; omega), ?_, fun x hx => by have := g5 x hx; rw [setUsLen, h2] at this; exact this⟩
      split at g4
      · rw [List.length_append] at g4; omega
      · exact g4
theorem ordC_grow {k : Nat} : ∀ (j i : Nat) {c : Cl} {o : List Nat} {q}, ordC k j i c o = some q → FitU c → (∀ h ∈ o, h < c.ns.length) → ∀ {B : Int}, 0 ≤ B → usB c.ns B → o.length ≤ q.2.length
  | 0, _, _, _, _, e, _, _, _, _, _ => by cases e
  | j + 1, i, c, o, q, e, hF, ho, B, hB, hu => by
    rw [ordC] at e
    cases hi : o[i]? with
    | none => rw [hi] at e; cases e; exact Nat.le_refl _
    | some g =>
      rw [hi] at e
      simp only at e
      have hg := ho g (List.mem_of_getElem? hi)
      have hp := hF.parts hg
      have hsn := snd_le hF.kid hg
      cases hd : downC k (List.range' (pC c g).2.1 ((pC c g).2.2 - (pC c g).2.1)) (pC c g).1.ns o with
      | none => rw [hd] at e; cases e
      | some qd =>
        rw [hd] at e
        simp only at e
        have hge : c.ns.length ≤ (pC c g).1.ns.length := parts_len
        obtain ⟨g1, g2, g3, g4, g5⟩ := downC_keep (vr := (pC c g).1.vr) (ps := (pC c g).1.ps) _ hd hp (fun p hp2 => by rw [List.mem_range'_1] at hp2; omega) (hu.parts hB g) (fun x hx => by have := ho x hx; omega)
        have := ordC_grow j (i + 1) e g1 (fun x hx => by show x < qd.1.length; rw [g2]; exact g5 x hx) (by omega) g3
        omega
theorem nats_at {l : List Nat} {i n : Nat} (h : l[i]? = some n) : (l.map fun n : Nat => CV.i (n : Int))[i]? = some (.i (n : Int)) := by rw [List.getElem?_map, h]; rfl
abbrev us0 (ns : List Nd) (n : Nat) : Bool := decide (nS ns n = 0)
-- 
set_option maxHeartbeats 16000000 in
theorem uOrd_abs (k : Nat) (c0 : Cl) (cn od : Cl × List Nat) (hq : countC k k 0 c0 [] = some cn) (ho : ordC k k 0 cn.1 (cn.2.filter fun n => decide (nS cn.1.ns n = 0)) = some od) (hF0 : FitU c0) (hu0 : usB c0.ns 0) (hol : od.2.length ≤ 1000) : AFunO Tryz.prog 123 (cstM c0) [.bp 350001 0 []] (.tup [intsV od.2, .b (decide ((od.2.length : Int) = cn.2.length))]) (cstM od.1) := by
  obtain ⟨hF1, hu1, hh1, hhl⟩ := countC_keep k 0 hq hF0 (by simpa using hu0) (by omega) (fun h hm => by cases hm) (Nat.le_refl _)
  have hcnt := uCount_abs k k c0 cn hq hF0 hu0
  obtain ⟨c, hc⟩ : ∃ c, c = cn.1 := ⟨_, rfl⟩
  obtain ⟨hs, hhs⟩ : ∃ hs, hs = cn.2 := ⟨_, rfl⟩
  rw [← hc] at ho hF1 hu1 hh1 hcnt
  rw [← hhs] at ho hh1 hhl hcnt ⊢
  have hl : c.ns.length ≤ 1000 := Nat.le_trans (len_pw _) hF1.big
  have hlm : (c.ns.map Nd.cv).length = c.ns.length := List.length_map ..
  have hss := nats_size hs
  refine afunO_of Tryz.func123 Tryz.ntmps123 rfl rfl rfl rfl rfl rfl ?_
  intro w U hU
  refine aS (aR ?_)
  (refine nx (aA (gN rfl) rfl rfl rfl rfl rfl) rfl ?_)
  (refine nx (aA (gN rfl) rfl rfl rfl rfl rfl) rfl ?_)
  show AWp _ _ _ _ _ _ _
  refine aS (aR ?_)
  (refine nx (aM (gN rfl) rfl rfl rfl rfl rfl) rfl ?_)
  (refine nx (a_callO (gN rfl) rfl rfl rfl rfl rfl (hcnt) (by repeat (first | exact trivial | refine ⟨rfl, ?_⟩)) (by first | rfl | kernel_rfl) (by first | rfl | kernel_rfl) (by first | rfl | kernel_rfl) (by first | rfl | kernel_rfl) (hnb_of (by first | rfl | kernel_rfl))) rfl ?_)
  (refine nx (aA (gN rfl) rfl rfl rfl rfl rfl) rfl ?_)
  show AWp _ _ _ _ _ _ _
  refine aS (aR ?_)
  (refine nx (aA (gN rfl) rfl rfl rfl rfl rfl) rfl ?_)
  show AWp _ _ _ _ _ _ _
  refine aS (aS (aR ?_))
  (refine nx (aM (gN rfl) rfl rfl rfl rfl rfl) rfl ?_)
  (refine nx (a_len (gN rfl) rfl rfl rfl rfl rfl rfl rfl) rfl ?_)
  (refine nx (aM (gN rfl) rfl rfl rfl rfl rfl) rfl ?_)
  show AWp _ _ _ _ _ _ _
  refine aB (awp_count hs.length (fun i => (0, AV.bp 350001 0 []) :: (4, .val (intsV hs)) :: (5, .own (intsV ((hs.take i).filter (us0 c.ns))) 200033) :: (200033, .tok 3 1) :: (15, .val (intsV hs)) :: (16, .val (.i (hs.map fun n : Nat => CV.i (n : Int)).length)) :: (17, .val (.i i)) :: cstM c) ((wk_nil 5 200033 3 1 rfl rfl rfl rfl rfl rfl (by kernel_rfl)).trans (wk_sub ⟨rfl, rfl, rfl, rfl, rfl, rfl, rfl, rfl, rfl, rfl, rfl, rfl, rfl, rfl, trivial⟩)) ?_)
  intro i hi
  refine aS (aR ?_)
  (refine nx (a_lss (gN rfl) rfl rfl rfl rfl rfl rfl) rfl ?_)
  show AWp _ _ _ _ _ _ _
  refine aS (aC rfl (fun hlt => ?_) (fun hlt => ?_))
  · have hil : i < hs.length := by simpa using hlt
    obtain ⟨n, hn⟩ : ∃ n, hs[i]? = some n := ⟨hs[i], List.getElem?_eq_getElem hil⟩
    have hn' := nats_at hn
    have hnl := hh1 n (List.mem_of_getElem? hn)
    obtain ⟨x, hx⟩ := nd_at hnl
    have hx' := Nd.map_at hx
    have hxs : nS c.ns n = x.us := by unfold nS; rw [getD_at hx]
    have htk : (hs.take (i + 1)).filter (us0 c.ns) = (hs.take i).filter (us0 c.ns) ++ (if nS c.ns n = 0 then [n] else []) := by
      rw [List.take_add_one, hn, List.filter_append]
      congr 1
      show List.filter (us0 c.ns) [n] = _
      unfold us0
      by_cases h0 : nS c.ns n = 0
      · simp [h0]
      · simp [h0]
    have hfs := nats_size ((hs.take i).filter (us0 c.ns))
    have hfl : ((hs.take i).filter (us0 c.ns)).length ≤ 1000 := Nat.le_trans (List.length_filter_le _ _) (by rw [List.length_take]; omega)
    refine aK ?_
    show AWp _ _ _ _ _ _ _
    refine aS (aB (aS (aR ?_)))
    (refine nx (a_index (j := i) (gN rfl) rfl rfl rfl rfl rfl rfl rfl rfl rfl (hn') rfl (hss)) rfl ?_)
    (refine nx (a_load_ad (gN rfl) rfl rfl rfl rfl rfl rfl rfl rfl rfl) rfl ?_)
    (refine nx (aA (gN rfl) rfl rfl rfl rfl rfl) rfl ?_)
    show AWp _ _ _ _ _ _ _
    refine aS (aR ?_)
    (refine nx (aM (gN rfl) rfl rfl rfl rfl rfl) rfl ?_)
    (refine nx (aNc (gN rfl) rfl rfl rfl rfl rfl) rfl ?_)
    (refine nx (aF (gN rfl) rfl rfl rfl rfl rfl rfl rfl rfl rfl) rfl ?_)
    (refine nx (aLf (gN rfl) rfl rfl rfl rfl rfl rfl rfl rfl rfl rfl rfl rfl rfl) rfl ?_)
    (refine nx (aM (gN rfl) rfl rfl rfl rfl rfl) rfl ?_)
    (refine nx (aIm (k := n) (gN rfl) rfl rfl rfl rfl rfl rfl rfl rfl rfl (by first | rfl | omega | (simp only [List.length_set, List.length_map, List.length_append, List.length_cons, List.length_nil] <;> omega) | (simp <;> omega))) rfl ?_)
    (refine nx (a_fieldM (gN rfl) rfl rfl rfl rfl rfl rfl rfl rfl rfl) rfl ?_)
    (refine nx (a_loadM (gN rfl) rfl rfl rfl rfl rfl rfl rfl rfl (hx') rfl (by first | rfl | omega | (simp only [List.length_set, List.length_map, List.length_append, List.length_cons, List.length_nil] <;> omega) | (simp <;> omega)) rfl rfl) rfl ?_)
    (refine nx (a_eql (gN rfl) rfl rfl rfl rfl rfl rfl) rfl ?_)
    show AWp _ _ _ _ _ _ _
    refine AWp.wk (wk_sub (s' := (0, AV.bp 350001 0 []) :: (4, .val (intsV hs)) :: (5, .own (intsV ((hs.take i).filter (us0 c.ns))) 200033) :: (200033, .tok 3 1) :: (7, .val (.i (n : Int))) :: (29, .val (.b (decide (x.us = 0)))) :: (15, .val (intsV hs)) :: (16, .val (.i (hs.map fun n : Nat => CV.i (n : Int)).length)) :: (17, .val (.i i)) :: cstM c) ⟨rfl, rfl, rfl, rfl, rfl, rfl, rfl, rfl, rfl, rfl, rfl, rfl, rfl, rfl, rfl, rfl, trivial⟩) ?_
    refine aC rfl (fun h0 => ?_) (fun h0 => ?_)
    · have h0 : x.us = 0 := by simpa using h0
      rw [hxs, if_pos h0] at htk
      refine aR ?_
      (refine nx (aM (gN rfl) rfl rfl rfl rfl rfl) rfl ?_)
      (refine nx (aM (gN rfl) rfl rfl rfl rfl rfl) rfl ?_)
      (refine nx (a_bslice (gN rfl) rfl rfl rfl rfl rfl rfl rfl rfl rfl rfl rfl rfl rfl) rfl ?_)
      (refine nx (a_app (gN rfl) rfl rfl rfl rfl rfl rfl rfl rfl rfl rfl rfl rfl rfl rfl rfl (by first | assumption | exact sZ rfl | exact Tm.size_all _ | exact Bd.size_all _ | exact ints_size _ | exact bys_size _ | exact Lt.size_all _) (by first | assumption | exact sZ rfl | exact Tm.size_all _ | exact Bd.size_all _ | exact ints_size _ | exact bys_size _ | exact Lt.size_all _) (by first | omega | (simp only [List.length_map, List.length_append, List.length_cons, List.length_nil] <;> omega) | (simp <;> omega))) (by kernel_rfl) ?_)
      (refine nx (aA (gN rfl) rfl rfl rfl rfl rfl) rfl ?_)
      show AWp _ _ _ _ _ _ _
      refine aR ?_
      (refine nx (a_add (gN rfl) rfl rfl rfl rfl rfl rfl (by first | omega | (simp only [List.length_map, List.length_append, List.length_cons, List.length_nil] <;> omega) | (simp <;> omega))) rfl ?_)
      (refine nx (aM (gN rfl) rfl rfl rfl rfl rfl) rfl ?_)
      refine ⟨hil, Wk.trans (wk_sub (s' := (0, AV.bp 350001 0 []) :: (4, .val (intsV hs)) :: (5, .own (intsV ((hs.take (i + 1)).filter (us0 c.ns))) 300033) :: (300033, .tok 3 1) :: (15, .val (intsV hs)) :: (16, .val (.i (hs.map fun n : Nat => CV.i (n : Int)).length)) :: (17, .val (.i ((i + 1 : Nat) : Int))) :: cstM c) ⟨rfl, rfl, ?_, rfl, rfl, rfl, rfl, rfl, rfl, rfl, rfl, rfl, rfl, rfl, trivial⟩) (wk_ren 300033 200033 rfl rfl (by kernel_rfl) (by kernel_rfl))⟩
      rw [htk]
      show _ = some (AV.own (.lst (((hs.take i).filter (us0 c.ns) ++ [n]).map fun n : Nat => CV.i (n : Int))) 300033)
      rw [List.map_append]; rfl
    · have h0 : ¬ x.us = 0 := by simpa using h0
      rw [hxs, if_neg h0, List.append_nil] at htk
      refine aK ?_
      show AWp _ _ _ _ _ _ _
      refine aR ?_
      (refine nx (a_add (gN rfl) rfl rfl rfl rfl rfl rfl (by first | omega | (simp only [List.length_map, List.length_append, List.length_cons, List.length_nil] <;> omega) | (simp <;> omega))) rfl ?_)
      (refine nx (aM (gN rfl) rfl rfl rfl rfl rfl) rfl ?_)
      refine ⟨hil, ?_⟩
      show Wk _ _ _ _ (_ :: _ :: (5, .own (intsV ((hs.take (i + 1)).filter (us0 c.ns))) 200033) :: _ :: _ :: _ :: _ :: cstM c)
      rw [htk]
      exact wk_sub ⟨rfl, rfl, rfl, rfl, rfl, rfl, rfl, rfl, rfl, rfl, rfl, rfl, rfl, rfl, trivial⟩
  have hil : i = hs.length := by
    have : ¬ i < hs.length := by simpa using hlt
    omega
  subst hil
  rw [List.take_length]
  refine aE ?_
  show AWp _ _ _ _ _ _ _
  refine aS (aS (aR ?_))
  (refine nx (aA (gN rfl) rfl rfl rfl rfl rfl) rfl ?_)
  show AWp _ _ _ _ _ _ _
  have ho2 : ∀ h ∈ hs.filter (us0 c.ns), h < c.ns.length := fun h hm => hh1 h (List.mem_filter.1 hm).1
  refine aB (awp_loop (fun j s => ∃ i c o, ordC k j i c o = some od ∧ FitU c ∧ usB c.ns (1000000 + (i : Int) * 1000) ∧ (∀ h ∈ o, h < c.ns.length) ∧ i ≤ o.length ∧ s = (0, AV.bp 350001 0 []) :: (4, .val (intsV hs)) :: (5, .own (intsV o) 200082) :: (200082, .tok 3 1) :: (8, .val (.i (i : Int))) :: cstM c) (n := k) (s' := (0, AV.bp 350001 0 []) :: (4, .val (intsV hs)) :: (5, .own (intsV (hs.filter (us0 c.ns))) 200082) :: (200082, .tok 3 1) :: (8, .val (.i ((0 : Nat) : Int))) :: cstM c) ((wk_sub (s' := (0, AV.bp 350001 0 []) :: (4, .val (intsV hs)) :: (5, .own (intsV (hs.filter (us0 c.ns))) 200033) :: (200033, .tok 3 1) :: (8, .val (.i ((0 : Nat) : Int))) :: cstM c) ⟨rfl, rfl, rfl, rfl, rfl, rfl, rfl, rfl, rfl, rfl, rfl, rfl, trivial⟩).trans (wk_ren 200033 200082 rfl rfl (by kernel_rfl) (by kernel_rfl))) ⟨0, c, hs.filter (us0 c.ns), ho, hF1, hu1.mono (by omega), ho2, Nat.zero_le _, rfl⟩ ?_)
  clear ho ho2 hlm hl hcnt hF1 hu1 hh1
  rintro j s ⟨i, c, o, ho, hF, hu, hh, hio, rfl⟩
  have hl : c.ns.length ≤ 1000 := Nat.le_trans (len_pw _) hF.big
  have hol1 : o.length ≤ od.2.length := ordC_grow j i ho hF hh (by omega) hu
  have hos := nats_size o
  cases j with
  | zero => cases ho
  | succ j =>
  rw [ordC] at ho
  refine aS (aS (aR ?_))
  (refine nx (aM (gN rfl) rfl rfl rfl rfl rfl) rfl ?_)
  (refine nx (aM (gN rfl) rfl rfl rfl rfl rfl) rfl ?_)
  (refine nx (a_len (gN rfl) rfl rfl rfl rfl rfl rfl rfl) rfl ?_)
  (refine nx (a_lss (gN rfl) rfl rfl rfl rfl rfl rfl) rfl ?_)
  show AWp _ _ _ _ _ _ _
  cases hoi : o[i]? with
  | none =>
    rw [hoi] at ho
    simp only at ho
    have ho := Option.some.inj ho
    subst ho
    have hil : o.length ≤ i := List.getElem?_eq_none_iff.1 hoi
    refine aC rfl (fun hc => ?_) (fun hc => ?_)
    · exfalso
      have : i < o.length := by simpa using hc
      omega
    refine aE ?_
    show AWp _ _ _ _ _ _ _
    refine aS (aR ?_)
    (refine nx (aM (gN rfl) rfl rfl rfl rfl rfl) rfl ?_)
    (refine nx (aM (gN rfl) rfl rfl rfl rfl rfl) rfl ?_)
    (refine nx (a_len (gN rfl) rfl rfl rfl rfl rfl rfl rfl) rfl ?_)
    (refine nx (aM (gN rfl) rfl rfl rfl rfl rfl) rfl ?_)
    (refine nx (a_len (gN rfl) rfl rfl rfl rfl rfl rfl rfl) rfl ?_)
    (refine nx (a_eql (gN rfl) rfl rfl rfl rfl rfl rfl) rfl ?_)
    (refine nx (aA (gN rfl) rfl rfl rfl rfl rfl) rfl ?_)
    (refine nx (aA (gN rfl) rfl rfl rfl rfl rfl) rfl ?_)
    show AWp _ _ _ _ _ _ _
    refine aT ⟨.inr rfl, _, Wk.refl _, ?_, rfl, rfl, rfl, rfl, rfl, rfl, rfl, trivial⟩
    show some (AV.tup [intsV o, .b (decide (((o.map fun n : Nat => CV.i (n : Int)).length : Int) = ((hs.map fun n : Nat => CV.i (n : Int)).length : Nat)))]) = _
    rw [List.length_map, List.length_map]
  | some g =>
  rw [hoi] at ho
  simp only at ho
  have hoi' := nats_at hoi
  have hil : i < o.length := (List.getElem?_eq_some_iff.1 hoi).1
  have hgl := hh g (List.mem_of_getElem? hoi)
  refine aC rfl (fun hc => ?_) (fun hc => ?_)
  case refine_2 =>
    have : ¬ i < o.length := by simpa using hc
    omega
  refine aK ?_
  show AWp _ _ _ _ _ _ _
  have hFp := hF.parts hgl
  have hup := hu.parts (by omega) g
  have hlp : (pC c g).1.ns.length ≤ 1000 := Nat.le_trans (len_pw _) hFp.big
  have hpc := uParts_abs c g hgl hF.trm (by omega) (hF.kid.fi hgl (by omega))
  obtain ⟨c2, hc2⟩ : ∃ c2, c2 = (pC c g).1 := ⟨_, rfl⟩
  obtain ⟨fr, hfr⟩ : ∃ x, x = (pC c g).2.1 := ⟨_, rfl⟩
  obtain ⟨to, hto⟩ : ∃ x, x = (pC c g).2.2 := ⟨_, rfl⟩
  have hft : fr ≤ to := by rw [hfr, hto]; exact parts_pos.1
  have htl : to ≤ c2.ns.length := by rw [hto, hc2]; exact snd_le hF.kid hgl
  have hge : c.ns.length ≤ c2.ns.length := by rw [hc2]; exact parts_len
  rw [← hc2] at ho hFp hup hlp hpc
  rw [← hfr, ← hto] at ho hpc
  refine aS (aB (aS (aR ?_)))
  (refine nx (aM (gN rfl) rfl rfl rfl rfl rfl) rfl ?_)
  (refine nx (aM (gN rfl) rfl rfl rfl rfl rfl) rfl ?_)
  (refine nx (aM (gN rfl) rfl rfl rfl rfl rfl) rfl ?_)
  (refine nx (a_index (j := i) (gN rfl) rfl rfl rfl rfl rfl rfl rfl rfl rfl (hoi') rfl (hos)) rfl ?_)
  (refine nx (a_load_ad (gN rfl) rfl rfl rfl rfl rfl rfl rfl rfl rfl) rfl ?_)
  (refine nx (a_callO (gN rfl) rfl rfl rfl rfl rfl (hpc) (by repeat (first | exact trivial | refine ⟨rfl, ?_⟩)) (by first | rfl | kernel_rfl) (by first | rfl | kernel_rfl) (by first | rfl | kernel_rfl) (by first | rfl | kernel_rfl) (hnb_of (by first | rfl | kernel_rfl))) rfl ?_)
  (refine nx (aM (gN rfl) rfl rfl rfl rfl rfl) rfl ?_)
  (refine nx (aX (gN rfl) rfl rfl rfl rfl rfl rfl) rfl ?_)
  (refine nx (aX (gN rfl) rfl rfl rfl rfl rfl rfl) rfl ?_)
  (refine nx (aA (gN rfl) rfl rfl rfl rfl rfl) rfl ?_)
  (refine nx (aA (gN rfl) rfl rfl rfl rfl rfl) rfl ?_)
  show AWp _ _ _ _ _ _ _
  refine aS (aR ?_)
  (refine nx (aM (gN rfl) rfl rfl rfl rfl rfl) rfl ?_)
  (refine nx (aA (gN rfl) rfl rfl rfl rfl rfl) rfl ?_)
  show AWp _ _ _ _ _ _ _
  cases hdn : downC k (List.range' fr (to - fr)) c2.ns o with
  | none => rw [hdn] at ho; cases ho
  | some qd =>
  rw [hdn] at ho
  simp only at ho
  have hqd : qd.2.length ≤ od.2.length := by
    obtain ⟨g1, g2, g3, g4, g5⟩ := downC_keep (vr := c2.vr) (ps := c2.ps) _ hdn hFp (fun p hp2 => by rw [List.mem_range'_1] at hp2; omega) hup (fun x hx => by have := hh x hx; omega)
    exact ordC_grow j (i + 1) ho g1 (fun x hx => by show x < qd.1.length; rw [g2]; exact g5 x hx) (by omega) g3
  refine aB (awp_loop (fun m s => ∃ e ns1 o1, e + m = to - fr ∧ downC k (List.range' (fr + e) m) ns1 o1 = some qd ∧ FitU ⟨ns1, c2.vr, c2.ps⟩ ∧ ns1.length = c2.ns.length ∧ usB ns1 (1000000 + (i : Int) * 1000 + e) ∧ (∀ h ∈ o1, h < c2.ns.length) ∧ i + 1 ≤ o1.length ∧ s = (0, AV.bp 350001 0 []) :: (4, .val (intsV hs)) :: (5, .own (intsV o1) 200082) :: (200082, .tok 3 1) :: (8, .val (.i (i : Int))) :: (10, .val (.i (to : Int))) :: (11, .val (.i ((fr + e : Nat) : Int))) :: cstF ⟨ns1, c2.vr, c2.ps⟩) (n := to - fr) (s' := (0, AV.bp 350001 0 []) :: (4, .val (intsV hs)) :: (5, .own (intsV o) 200082) :: (200082, .tok 3 1) :: (8, .val (.i (i : Int))) :: (10, .val (.i (to : Int))) :: (11, .val (.i ((fr + 0 : Nat) : Int))) :: cstF ⟨c2.ns, c2.vr, c2.ps⟩) ((wk_sub (s' := (0, AV.bp 350001 0 []) :: (4, .val (intsV hs)) :: (5, .own (intsV o) 200082) :: (200082, .tok 3 1) :: (8, .val (.i (i : Int))) :: (10, .val (.i (to : Int))) :: (11, .val (.i ((fr + 0 : Nat) : Int))) :: cstM c2) ⟨rfl, rfl, rfl, rfl, rfl, rfl, rfl, rfl, rfl, rfl, rfl, rfl, rfl, rfl, trivial⟩).trans (wk_renF 300001 400001 rfl rfl (hUno hU (by kernel_rfl)) (by kernel_rfl) (by kernel_rfl) (by kernel_rfl))) ⟨0, c2.ns, o, by omega, hdn, hFp, rfl, hup.mono (by omega), fun h hm => by have := hh h hm; omega, by omega, rfl⟩ ?_)
  rintro m s ⟨e, ns1, o1, hem, hd1, hF3, hl3, hb3, ho3, hi3, rfl⟩
  have ho1l : o1.length ≤ qd.2.length := (downC_keep _ hd1 hF3 (fun p hp2 => by rw [List.mem_range'_1] at hp2; omega) hb3 (fun x hx => by rw [hl3]; exact ho3 x hx)).2.2.2.1
  have ho1s := nats_size o1
  refine aS (aS (aR ?_))
  (refine nx (aM (gN rfl) rfl rfl rfl rfl rfl) rfl ?_)
  (refine nx (aM (gN rfl) rfl rfl rfl rfl rfl) rfl ?_)
  (refine nx (a_lss (gN rfl) rfl rfl rfl rfl rfl rfl) rfl ?_)
  show AWp _ _ _ _ _ _ _
  cases m with
  | zero =>
    have hd2 : some (ns1, o1) = some qd := hd1
    have hd2 := Option.some.inj hd2
    subst hd2
    refine aC rfl (fun hc => ?_) (fun hc => ?_)
    · exfalso
      have : ((fr + e : Nat) : Int) < to := by simpa using hc
      omega
    refine aE ?_
    show AWp _ _ _ _ _ _ _
    refine aR ?_
    (refine nx (aM (gN rfl) rfl rfl rfl rfl rfl) rfl ?_)
    (refine nx (a_add (gN rfl) rfl rfl rfl rfl rfl rfl (by first | omega | (simp only [List.length_map, List.length_append, List.length_cons, List.length_nil] <;> omega) | (simp <;> omega))) rfl ?_)
    (refine nx (aA (gN rfl) rfl rfl rfl rfl rfl) rfl ?_)
    refine ⟨j, (0, AV.bp 350001 0 []) :: (4, .val (intsV hs)) :: (5, .own (intsV o1) 200082) :: (200082, .tok 3 1) :: (8, .val (.i ((i + 1 : Nat) : Int))) :: cstM ⟨ns1, c2.vr, c2.ps⟩, by omega, ⟨i + 1, ⟨ns1, c2.vr, c2.ps⟩, o1, ho, hF3, hb3.mono (by omega), fun h hm => by show h < ns1.length; rw [hl3]; exact ho3 h hm, hi3, rfl⟩, (wk_sub (s' := (0, AV.bp 350001 0 []) :: (4, .val (intsV hs)) :: (5, .own (intsV o1) 200082) :: (200082, .tok 3 1) :: (8, .val (.i ((i + 1 : Nat) : Int))) :: cstF ⟨ns1, c2.vr, c2.ps⟩) ⟨rfl, rfl, rfl, rfl, rfl, rfl, rfl, rfl, rfl, rfl, rfl, rfl, trivial⟩).trans (wk_renF 400001 300001 rfl rfl (hUlow U (by decide)) (by kernel_rfl) (by kernel_rfl) (by kernel_rfl))⟩
  | succ m =>
    have hp1 : fr + e < ns1.length := by omega
    rw [List.range'_succ, downC] at hd1
    cases hd2 : headC k ns1 (fr + e) with
    | none => rw [hd2] at hd1; cases hd1
    | some r2 =>
    rw [hd2] at hd1
    simp only at hd1
    obtain ⟨hF4, hl4, hr4⟩ := FitU.head hF3 hp1 hd2
    have hb4 := hb3.head hd2
    have hdc2 := uHead_abs c2.vr c2.ps k ns1 (fr + e) r2 hd2 hF3.up hp1 (by omega)
    obtain ⟨y, hy⟩ := nd_at (ns := r2.1) (n := r2.2) (by omega)
    have hy' := Nd.map_at hy
    have hlm : (r2.1.map Nd.cv).length = r2.1.length := List.length_map ..
    have hys : nS r2.1 r2.2 = y.us := by unfold nS; rw [getD_at hy]
    have hyb := hb4 r2.2
    rw [hys] at hyb hd1
    refine aC rfl (fun hc => ?_) (fun hc => ?_)
    case refine_2 =>
      have : ¬ ((fr + e : Nat) : Int) < to := by simpa using hc
      omega
    refine aK ?_
    show AWp _ _ _ _ _ _ _
    refine aS (aB (aS (aR ?_)))
    (refine nx (aM (gN rfl) rfl rfl rfl rfl rfl) rfl ?_)
    (refine nx (aM (gN rfl) rfl rfl rfl rfl rfl) rfl ?_)
    (refine nx (a_callO (gN rfl) rfl rfl rfl rfl rfl (hdc2) (by repeat (first | exact trivial | refine ⟨rfl, ?_⟩)) (by first | rfl | kernel_rfl) (by first | rfl | kernel_rfl) (by first | rfl | kernel_rfl) (by first | rfl | kernel_rfl) (hnb_of (by first | rfl | kernel_rfl))) rfl ?_)
    (refine nx (aA (gN rfl) rfl rfl rfl rfl rfl) rfl ?_)
    show AWp _ _ _ _ _ _ _
    refine aS (aR ?_)
    (refine nx (aM (gN rfl) rfl rfl rfl rfl rfl) rfl ?_)
    (refine nx (aNc (gN rfl) rfl rfl rfl rfl rfl) rfl ?_)
    (refine nx (aF (gN rfl) rfl rfl rfl rfl rfl rfl rfl rfl rfl) rfl ?_)
    (refine nx (aLf (gN rfl) rfl rfl rfl rfl rfl rfl rfl rfl rfl rfl rfl rfl rfl) rfl ?_)
    (refine nx (aM (gN rfl) rfl rfl rfl rfl rfl) rfl ?_)
    (refine nx (aIm (k := r2.2) (gN rfl) rfl rfl rfl rfl rfl rfl rfl rfl rfl (by first | rfl | omega | (simp only [List.length_set, List.length_map, List.length_append, List.length_cons, List.length_nil] <;> omega) | (simp <;> omega))) rfl ?_)
    (refine nx (a_fieldM (gN rfl) rfl rfl rfl rfl rfl rfl rfl rfl rfl) rfl ?_)
    (refine nx (a_loadM (gN rfl) rfl rfl rfl rfl rfl rfl rfl rfl (hy') rfl (by first | rfl | omega | (simp only [List.length_set, List.length_map, List.length_append, List.length_cons, List.length_nil] <;> omega) | (simp <;> omega)) rfl rfl) rfl ?_)
    (refine nx (a_sub (gN rfl) rfl rfl rfl rfl rfl rfl (by first | omega | (simp only [List.length_map, List.length_append, List.length_cons, List.length_nil] <;> omega) | (simp <;> omega))) rfl ?_)
    (refine nx (aIm (k := r2.2) (gN rfl) rfl rfl rfl rfl rfl rfl rfl rfl rfl (by first | rfl | omega | (simp only [List.length_set, List.length_map, List.length_append, List.length_cons, List.length_nil] <;> omega) | (simp <;> omega))) rfl ?_)
    (refine nx (a_fieldM (gN rfl) rfl rfl rfl rfl rfl rfl rfl rfl rfl) rfl ?_)
    (refine nx (a_storeM (gN rfl) rfl rfl rfl rfl rfl rfl (hy') rfl rfl (by first | rfl | omega | (simp only [List.length_set, List.length_map, List.length_append, List.length_cons, List.length_nil] <;> omega) | (simp <;> omega)) rfl) rfl ?_)
    show AWp _ _ _ _ _ _ _
    obtain ⟨ns2, hn2⟩ : ∃ ns2, ns2 = setUs r2.1 r2.2 (y.us - 1) := ⟨_, rfl⟩
    have hm2 : ns2.map Nd.cv = (r2.1.map Nd.cv).set r2.2 (Nd.cw { y with us := y.us - 1 }) := by rw [hn2]; exact map_setUs hy
    have hl2 : ns2.length = r2.1.length := by rw [hn2, setUsLen]
    have hy2 : ns2[r2.2]? = some { y with us := y.us - 1 } := by rw [hn2]; exact setUs_at hy
    have hy2' := Nd.map_at hy2
    have hlm2 : (ns2.map Nd.cv).length = ns2.length := List.length_map ..
    have hF5 : FitU ⟨ns2, c2.vr, c2.ps⟩ := by rw [hn2]; exact hF4.us _ _
    have hb5 : usB ns2 (1000000 + (i : Int) * 1000 + e + 1) := by rw [hn2]; exact hb4.set (by omega)
    rw [← hn2] at hd1
    refine AWp.wk (wk_sub (s' := (0, AV.bp 350001 0 []) :: (4, .val (intsV hs)) :: (5, .own (intsV o1) 200082) :: (200082, .tok 3 1) :: (8, .val (.i (i : Int))) :: (10, .val (.i (to : Int))) :: (11, .val (.i ((fr + e : Nat) : Int))) :: (12, .val (.i (r2.2 : Int))) :: cstF ⟨ns2, c2.vr, c2.ps⟩) ⟨rfl, rfl, rfl, rfl, rfl, rfl, rfl, rfl, rfl, ?_, rfl, rfl, ?_, rfl, rfl, trivial⟩) ?_
    · show _ = some (AV.sl 400001 0 ns2.length 5); rw [hl2]; rfl
    · show _ = some (AV.mrow 194 5 (ns2.map Nd.cv)); rw [hm2]; rfl
    refine aS (aR ?_)
    (refine nx (aM (gN rfl) rfl rfl rfl rfl rfl) rfl ?_)
    (refine nx (aNc (gN rfl) rfl rfl rfl rfl rfl) rfl ?_)
    (refine nx (aF (gN rfl) rfl rfl rfl rfl rfl rfl rfl rfl rfl) rfl ?_)
    (refine nx (aLf (gN rfl) rfl rfl rfl rfl rfl rfl rfl rfl rfl rfl rfl rfl rfl) rfl ?_)
    (refine nx (aM (gN rfl) rfl rfl rfl rfl rfl) rfl ?_)
    (refine nx (aIm (k := r2.2) (gN rfl) rfl rfl rfl rfl rfl rfl rfl rfl rfl (by first | rfl | omega | (simp only [List.length_set, List.length_map, List.length_append, List.length_cons, List.length_nil] <;> omega) | (simp <;> omega))) rfl ?_)
    (refine nx (a_fieldM (gN rfl) rfl rfl rfl rfl rfl rfl rfl rfl rfl) rfl ?_)
    (refine nx (a_loadM (gN rfl) rfl rfl rfl rfl rfl rfl rfl rfl (hy2') rfl (by first | rfl | omega | (simp only [List.length_set, List.length_map, List.length_append, List.length_cons, List.length_nil] <;> omega) | (simp <;> omega)) rfl rfl) rfl ?_)
    (refine nx (a_eql (gN rfl) rfl rfl rfl rfl rfl rfl) rfl ?_)
    show AWp _ _ _ _ _ _ _
    refine AWp.wk (wk_sub (s' := (0, AV.bp 350001 0 []) :: (4, .val (intsV hs)) :: (5, .own (intsV o1) 200082) :: (200082, .tok 3 1) :: (8, .val (.i (i : Int))) :: (10, .val (.i (to : Int))) :: (11, .val (.i ((fr + e : Nat) : Int))) :: (12, .val (.i (r2.2 : Int))) :: (78, .val (.b (decide (y.us - 1 = 0)))) :: cstF ⟨ns2, c2.vr, c2.ps⟩) ⟨rfl, rfl, rfl, rfl, rfl, rfl, rfl, rfl, rfl, rfl, rfl, rfl, rfl, rfl, rfl, rfl, trivial⟩) ?_
    refine aC rfl (fun h0 => ?_) (fun h0 => ?_)
    · have h0 : y.us - 1 = 0 := by simpa using h0
      rw [if_pos h0] at hd1
      refine aR ?_
      (refine nx (aM (gN rfl) rfl rfl rfl rfl rfl) rfl ?_)
      (refine nx (aM (gN rfl) rfl rfl rfl rfl rfl) rfl ?_)
      (refine nx (a_bslice (gN rfl) rfl rfl rfl rfl rfl rfl rfl rfl rfl rfl rfl rfl rfl) rfl ?_)
      (refine nx (a_app (gN rfl) rfl rfl rfl rfl rfl rfl rfl rfl rfl rfl rfl rfl rfl rfl rfl (by first | assumption | exact sZ rfl | exact Tm.size_all _ | exact Bd.size_all _ | exact ints_size _ | exact bys_size _ | exact Lt.size_all _) (by first | assumption | exact sZ rfl | exact Tm.size_all _ | exact Bd.size_all _ | exact ints_size _ | exact bys_size _ | exact Lt.size_all _) (by first | omega | (simp only [List.length_map, List.length_append, List.length_cons, List.length_nil] <;> omega) | (simp <;> omega))) (by kernel_rfl) ?_)
      (refine nx (aA (gN rfl) rfl rfl rfl rfl rfl) rfl ?_)
      show AWp _ _ _ _ _ _ _
      refine aR ?_
      (refine nx (aM (gN rfl) rfl rfl rfl rfl rfl) rfl ?_)
      (refine nx (a_add (gN rfl) rfl rfl rfl rfl rfl rfl (by first | omega | (simp only [List.length_map, List.length_append, List.length_cons, List.length_nil] <;> omega) | (simp <;> omega))) rfl ?_)
      (refine nx (aA (gN rfl) rfl rfl rfl rfl rfl) rfl ?_)
      refine ⟨m, (0, AV.bp 350001 0 []) :: (4, .val (intsV hs)) :: (5, .own (intsV (o1 ++ [r2.2])) 200082) :: (200082, .tok 3 1) :: (8, .val (.i (i : Int))) :: (10, .val (.i (to : Int))) :: (11, .val (.i ((fr + (e + 1) : Nat) : Int))) :: cstF ⟨ns2, c2.vr, c2.ps⟩, by omega, ⟨e + 1, ns2, o1 ++ [r2.2], by omega, by rw [← Nat.add_assoc]; exact hd1, hF5, by omega, hb5.mono (by omega), fun h hm => by
        rcases List.mem_append.1 hm with hm | hm
        · exact ho3 h hm
        · rw [List.mem_singleton] at hm; omega, by rw [List.length_append]; omega, rfl⟩, (wk_sub (s' := (0, AV.bp 350001 0 []) :: (4, .val (intsV hs)) :: (5, .own (intsV (o1 ++ [r2.2])) 300082) :: (300082, .tok 3 1) :: (8, .val (.i (i : Int))) :: (10, .val (.i (to : Int))) :: (11, .val (.i ((fr + (e + 1) : Nat) : Int))) :: cstF ⟨ns2, c2.vr, c2.ps⟩) ⟨rfl, rfl, ?_, rfl, rfl, rfl, rfl, rfl, rfl, rfl, rfl, rfl, rfl, rfl, trivial⟩).trans (wk_ren 300082 200082 rfl rfl (by kernel_rfl) (by kernel_rfl))⟩
      show _ = some (AV.own (.lst ((o1 ++ [r2.2]).map fun n : Nat => CV.i (n : Int))) 300082)
      rw [List.map_append]; rfl
    · have h0 : ¬ y.us - 1 = 0 := by simpa using h0
      rw [if_neg h0] at hd1
      refine aK ?_
      show AWp _ _ _ _ _ _ _
      refine aR ?_
      (refine nx (aM (gN rfl) rfl rfl rfl rfl rfl) rfl ?_)
      (refine nx (a_add (gN rfl) rfl rfl rfl rfl rfl rfl (by first | omega | (simp only [List.length_map, List.length_append, List.length_cons, List.length_nil] <;> omega) | (simp <;> omega))) rfl ?_)
      (refine nx (aA (gN rfl) rfl rfl rfl rfl rfl) rfl ?_)
      exact ⟨m, (0, AV.bp 350001 0 []) :: (4, .val (intsV hs)) :: (5, .own (intsV o1) 200082) :: (200082, .tok 3 1) :: (8, .val (.i (i : Int))) :: (10, .val (.i (to : Int))) :: (11, .val (.i ((fr + (e + 1) : Nat) : Int))) :: cstF ⟨ns2, c2.vr, c2.ps⟩, by omega, ⟨e + 1, ns2, o1, by omega, by rw [← Nat.add_assoc]; exact hd1, hF5, by omega, hb5.mono (by omega), ho3, hi3, rfl⟩, wk_sub ⟨rfl, rfl, rfl, rfl, rfl, rfl, rfl, rfl, rfl, rfl, rfl, rfl, rfl, rfl, trivial⟩⟩
theorem nodup_le : ∀ (N : Nat) {l : List Nat}, l.Nodup → (∀ x ∈ l, x < N) → l.length ≤ N
  | 0, l, _, h => by
    cases l with
    | nil => simp
    | cons a l => exact absurd (h a (by simp)) (by omega)
  | N + 1, l, hn, h => by
    have h1 : (l.filter fun x => decide (x ≠ N)).length ≤ N := nodup_le N (List.Pairwise.filter _ hn) fun x hx => by
      obtain ⟨h2, h3⟩ := List.mem_filter.1 hx
      have := h x h2
      have : x ≠ N := by simpa using h3
      omega
    have h2 : l.length ≤ (l.filter fun x => decide (x ≠ N)).length + 1 := by
      clear h h1
      induction l with
      | nil => simp
      | cons a l ih =>
        rw [List.nodup_cons] at hn
        by_cases e : a = N
        · subst e
          rw [List.filter_cons, if_neg (by simp), List.length_cons]
          have : l.filter (fun x => decide (x ≠ a)) = l := List.filter_eq_self.2 fun x hx => by
            simp only [ne_eq, decide_eq_true_eq]
            exact fun e => hn.1 (e ▸ hx)
          rw [this]
          omega
        · rw [List.filter_cons, if_pos (by simpa using e), List.length_cons, List.length_cons]
          have := ih hn.2
          omega
    omega
theorem runC_inv : ∀ (k : Nat) {c : Cl} {q} {E} {M : Nat}, runC k c = some q → Inv c E M → q.2 = true → Inv q.1 E M ∧ q.1.ps = []
  | 0, _, _, _, _, e, _, _ => by cases e
  | k + 1, c, q, E, M, e, h, hq => by
    rw [runC] at e
    cases hg : c.ps.getLast? with
    | none => rw [hg] at e; cases e; exact ⟨h, List.getLast?_eq_none_iff.1 hg⟩
    | some p =>
      rw [hg] at e
      simp only at e
      cases hj : joinC k ⟨c.ns, c.vr, c.ps.dropLast⟩ p.1 p.2 with
      | none => rw [hj] at e; cases e
      | some qq =>
        rw [hj] at e
        simp only at e
        split at e
        · rename_i h2; exact runC_inv k e ((h.join hg hj).2 h2) hq
        · rename_i h2; cases e; exact absurd hq h2
theorem joinAllC_inv {k : Nat} : ∀ (l : List (Tm × Tm)) {c : Cl} {q} {E}, joinAllC k l c = some q → Inv c E 2000001 → c.ps = [] → (∀ p ∈ l, (p.1.rng ∧ p.1.ok) ∧ (p.2.rng ∧ p.2.ok)) → pw c.ns + plcS l ≤ 1000 → q.2 = true → ∃ E', Inv q.1 E' 2000001
  | [], c, q, E, e, h, _, _, _, _ => by cases e; exact ⟨E, h⟩
  | p :: l, c, q, E, e, h, hps, hl, hb, hq => by
    have hb : pw c.ns + (p.1.size + p.2.size + plcS l) ≤ 1000 := hb
    rw [joinAllC] at e
    cases hr : runC k (openC c p) with
    | none => rw [hr] at e; cases e
    | some qr =>
      rw [hr] at e
      simp only at e
      obtain ⟨h1, h2⟩ := hl p (by simp)
      have hI := h.opn hps h1 h2 (by omega)
      split at e
      · rename_i h3
        obtain ⟨g1, g2⟩ := runC_inv k hr hI h3
        have hp := pw_run k hr
        rw [pw_open] at hp
        exact joinAllC_inv l e g1 g2 (fun x hx => hl x (List.mem_cons_of_mem _ hx)) (by omega) hq
      · rename_i h3; cases e; exact absurd hq h3
theorem ordC_fit {k : Nat} : ∀ (j i : Nat) {c : Cl} {o : List Nat} {q}, ordC k j i c o = some q → FitU c → (∀ h ∈ o, h < c.ns.length) → ∀ {B : Int}, 0 ≤ B → usB c.ns B → FitU q.1
  | 0, _, _, _, _, e, _, _, _, _, _ => by cases e
  | j + 1, i, c, o, q, e, hF, ho, B, hB, hu => by
    rw [ordC] at e
    cases hi : o[i]? with
    | none => rw [hi] at e; cases e; exact hF
    | some g =>
      rw [hi] at e
      simp only at e
      have hg := ho g (List.mem_of_getElem? hi)
      have hp := hF.parts hg
      have hsn := snd_le hF.kid hg
      cases hd : downC k (List.range' (pC c g).2.1 ((pC c g).2.2 - (pC c g).2.1)) (pC c g).1.ns o with
      | none => rw [hd] at e; cases e
      | some qd =>
        rw [hd] at e
        simp only at e
        have hge : c.ns.length ≤ (pC c g).1.ns.length := parts_len
        obtain ⟨g1, g2, g3, g4, g5⟩ := downC_keep (vr := (pC c g).1.vr) (ps := (pC c g).1.ps) _ hd hp (fun p hp2 => by rw [List.mem_range'_1] at hp2; omega) (hu.parts hB g) (fun x hx => by have := ho x hx; omega)
        exact ordC_fit j (i + 1) e g1 (fun x hx => by show x < qd.1.length; rw [g2]; exact g5 x hx) (by omega) g3
end Go.Proofs.YteegmcfobgpemaaGreat
namespace Go.Proofs.YteegmcfobgpemaaGreat
open Go.RowKit Go.MapKept Go.Shelf
set_option linter.unusedVariables false
set_option linter.unusedSimpArgs false
attribute [local go_sem] Oper.semAt_some

def encB (x : Nat × Int) : List CV := [.i (x.1 : Int), .i x.2]
def backL (L : List Int) : List (Nat × Int) := (List.range L.length).reverse.map fun i => (i, L.getD i 0)
theorem backL_len (L : List Int) : (backL L).length = L.length := by simp [backL]
theorem backL_at {L : List Int} {k : Nat} (h : k < L.length) : (backL L)[k]? = some (L.length - 1 - k, L.getD (L.length - 1 - k) 0) := by
  unfold backL
  rw [List.getElem?_map, List.getElem?_reverse (by simpa using h)]
  simp only [List.length_range]
  rw [List.getElem?_range (by omega)]
  rfl
set_option maxRecDepth 100000 in
set_option maxHeartbeats 2000000 in
theorem back_in (l Bb ob : Nat) (L : List Int) (R : Nat → Nat → Prop) (w : World) (ao : Option Addr) (cap : Nat) (hbox : w.cell? ⟨Bb, ob, none⟩ = some (.slice ao L.length cap)) (hRb : R Bb ob) (hat : At R w ao (L.map (Value.int .i64))) (hl : L.length ≤ 1000000000)
    (J : List (Nat × Int) → World → Prop) (hJ : ∀ pre A B, J pre A → Below A.heap.size A B → J pre B)
    (hY : ∀ pre (x : Nat × Int) V, J pre V → (backL L)[pre.length]? = some x → YieldAt Fence.wide 1 Tryz.prog l #[.int .i64 (x.1 : Int), .int .i64 x.2] V fun e V' => e = .returned (.bool true) ∧ J (pre ++ [x]) V' ∧ KpX w.heap.size (fun b => ¬ ∃ o, R b o) V V')
    (W : World) (hW : Below w.heap.size w W) (h0 : J [] W) :
    CallsIn Fence.wide 2 Tryz.prog 181 #[.func (.yield l) #[] #[], .pointer (some ⟨Bb, ob, none⟩)] W fun e W' => (∃ v, e = .returned v) ∧ ∃ ys, ys = backL L ∧ J ys W' := by
  have hcs : ∀ {V : World}, KpX w.heap.size (fun b => ¬ ∃ o, R b o) w V → V.cell? ⟨Bb, ob, none⟩ = some (.slice ao L.length cap) ∧ ∀ i, i < L.length → ∃ b off, ao = some ⟨b, off, none⟩ ∧ V.cell? ⟨b, off + i, none⟩ = some (.int .i64 (L.getD i 0)) := fun {V} hV => by
    have hkeep : ∀ b o u, R b o → w.cell? ⟨b, o, none⟩ = some u → V.cell? ⟨b, o, none⟩ = some u := fun b o u hr hc => by
      have hb : b < w.heap.size := World.block_lt_of_cell? w _ hc
      rw [World.cell?_of_block (w := w) (hV b hb (fun hn => hn ⟨o, hr⟩))]
      exact hc
    refine ⟨hkeep _ _ _ hRb hbox, fun i hi => ?_⟩
    rcases hat with h1 | ⟨b, off, h1, h2⟩
    · have := congrArg List.length h1
      rw [List.length_map] at this
      simp at this
      subst this
      simp at hi
    · obtain ⟨h3, h4⟩ := h2 i (by simpa using hi)
      refine ⟨b, off, h1, hkeep _ _ _ h3 ?_⟩
      rw [h4, List.getElem?_map, List.getElem?_eq_getElem hi, List.getD_eq_getElem?_getD, List.getElem?_eq_getElem hi]
      rfl
  have hW0 : KpX w.heap.size (fun b => ¬ ∃ o, R b o) w W := fun b hb _ => hW.block b hb
  obtain ⟨n, hn⟩ : ∃ n, n = L.length := ⟨_, rfl⟩
  have HN : Hid (n = L.length) := hn
  have HC : Hid (∀ {V : World}, KpX w.heap.size (fun b => ¬ ∃ o, R b o) w V → V.cell? ⟨Bb, ob, none⟩ = some (.slice ao n cap) ∧ ∀ i, i < n → ∃ b off, ao = some ⟨b, off, none⟩ ∧ V.cell? ⟨b, off + i, none⟩ = some (.int .i64 (L.getD i 0))) := by
    rw [hn]; exact fun {V} h => hcs h
  have hl' : n ≤ 1000000000 := by omega
  clear hcs hbox hat hn hl hRb
  obtain ⟨hb0, _⟩ := HC.out hW0
  refine callsIn_of_wp Tryz.func181 rfl trivial ?_ rfl
  simp only [Tryz.ntmps181, List.size_toArray, List.length_cons, List.length_nil, Nat.reduceAdd, Nat.reduceSub, Array.replicate_succ, Array.replicate_zero, List.push_toArray, List.append_toArray, List.nil_append, List.cons_append]
  gi_wp2
  gi_loopw [3] (fun iv wr => ∃ (z : Int) (k : Nat), iv = .int .i64 z ∧ z = (n : Int) - 1 - k ∧ k ≤ n ∧ J ((backL L).take k) wr ∧ KpX w.heap.size (fun b => ¬ ∃ o, R b o) w wr) (fun iv wr => (intOf iv + 1).toNat)
  case atStart => exact ⟨_, 0, rfl, by omega, by omega, by simpa using h0, hW0⟩
  case round =>
    obtain ⟨z, k, rfl, hz, hk, hJr, hKr⟩ := hrel
    clear hb0 h0 hW0
    obtain ⟨hb1, hc1⟩ := HC.out hKr
    by_cases hkn : k = n
    · have hz1 : z = -1 := by omega
      subst hz1
      gi_wp2
      go_end0
      refine ⟨⟨_, rfl⟩, _, rfl, ?_⟩
      rw [hkn, HN.out, ← backL_len, List.take_length] at hJr
      exact hJr
    · obtain ⟨j, hj⟩ : ∃ j : Nat, j = n - 1 - k := ⟨_, rfl⟩
      have hzj : z = (j : Int) := by omega
      have hjn : j < n := by omega
      subst hzj
      obtain ⟨b, off, rfl, hc2⟩ := hc1 j hjn
      have hx : (backL L)[((backL L).take k).length]? = some (j, L.getD j 0) := by
        have hkl : k < L.length := by have := HN.out; omega
        rw [List.length_take, backL_len, Nat.min_eq_left (by omega), backL_at hkl, ← HN.out, ← hj]
      obtain ⟨fn, tmps, assign, body, hy, hR⟩ := hY _ _ _ hJr hx
      have HX : Hid (((backL L).take k) ++ [(j, L.getD j 0)] = (backL L).take (k + 1)) := by
        have hkl : k < L.length := by have := HN.out; omega
        show _ = _
        rw [List.take_add_one, backL_at hkl, ← HN.out, ← hj]
        rfl
      obtain ⟨v, hv⟩ : ∃ v, v = L.getD j 0 := ⟨_, rfl⟩
      rw [← hv] at hc2 hR
      have HX2 := HX.out
      rw [← hv] at HX2
      have HX3 : Hid (((backL L).take k) ++ [(j, v)] = (backL L).take (k + 1)) := HX2
      clear HX HX2 hx hc1
      have hy : Sem.run Tryz.prog (Instr.yield l #[.int .i64 (j : Int), .int .i64 v]) wr = .ok (.round l fn tmps assign body) wr := by rw [hv]; exact hy
      clear hv
      have HJ : Hid (j = n - 1 - k ∧ k < n) := ⟨hj, by omega⟩
      clear hj hz hkn hk
      gi_wp2
      refine hR.mono ?_
      rintro e V3 ⟨rfl, hJ3, hk3⟩
      gi_wp2
      go_roundw
      case rel => exact ⟨_, k + 1, rfl, by have := HJ.out; omega, by have := HJ.out; omega, by have := hJ3; rw [HX3.out] at this; exact this, fun b' hb' hx' => (hk3 b' hb' hx').trans (hKr b' hb' hx')⟩
      case measure => simp [intOf]
theorem back_hands (L : List Int) (hl : L.length ≤ 1000000000) : Hands Tryz.prog 181 [.ptr (.lst (L.map CV.i))] encB (backL L) := by
  rintro w lb R ⟨u, us, rfl, h1, h2⟩
  have h2 : us = [] := h2
  subst h2
  obtain ⟨b, off, xs, rfl, h3, h4⟩ := vrep_ptr.1 h1
  obtain ⟨v, g1, g2⟩ := vrep_of_rep h3
  obtain ⟨ao, n, cap, rfl, e1, e2, e3, e4, ys, e5, e6⟩ := vrep_lst.1 g1
  rw [List.length_map] at e1
  subst e1
  have hxs : xs = [.slice ao L.length cap] := by rw [← g2]; rfl
  subst hxs
  obtain ⟨h5, h6⟩ := h4 0 (by simp)
  have hys : ys = L.map (Value.int .i64) := by
    have : ∀ (l : List Int) (zs : List Value), Sq ((l.map CV.i).map fun c => Rep R w c) zs → zs = l.map (Value.int .i64) := by
      intro l
      induction l with
      | nil => intro zs h; exact h
      | cons x l ih =>
        intro zs h
        obtain ⟨us, bs, rfl, k1, k2⟩ := h
        rw [List.map_cons, ih bs k2]
        have k3 : us = [.int .i64 x] := by
          obtain ⟨v, j1, j2⟩ := vrep_of_rep k1
          obtain ⟨j3, _⟩ := vrep_sc.1 j1
          subst j3
          rw [← j2]; rfl
        rw [k3]; rfl
    exact this L ys e6
  subst hys
  intro l J W hW hJ hY h0
  exact back_in l b off L R w ao cap (by simpa using h6) (by simpa using h5) e5 hl J hJ hY W hW h0
-- 
theorem back_abs (W : World) (L : List Int) : AFun Tryz.prog W 174 [.lst (L.map CV.i)] (.val (.fn 181 0 [.ptr (.lst (L.map CV.i))])) := by
  refine afun_of (rs := [.fn 181 0 [.ptr (.lst (L.map CV.i))]]) Tryz.func174 Tryz.ntmps174 rfl rfl rfl rfl ?_
  intro w U hW
  refine aS (aR ?_)
  (refine nx (a_box (gN rfl) rfl rfl rfl rfl rfl) rfl ?_)
  (refine nx (aA (gN rfl) rfl rfl rfl rfl rfl) rfl ?_)
  show AWp _ _ _ _ _ _ _
  refine AWp.wk (wk_freeze 1 rfl rfl rfl (s' := []) trivial rfl rfl rfl) ?_
  refine aS (aR ?_)
  (refine nx (a_mkfunc (gN rfl) rfl rfl rfl rfl rfl rfl) rfl ?_)
  (refine nx (aA (gN rfl) rfl rfl rfl rfl rfl) rfl ?_)
  show AWp _ _ _ _ _ _ _
  exact aT ⟨.inr rfl, rfl⟩
end Go.Proofs.YteegmcfobgpemaaGreat
