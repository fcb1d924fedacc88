/-
  UnFns3 UnFns4 UnFns5 UnFns6 UnFns7
-/
import Derived.Test.YteegmcfobgpemaaGreatMg5
namespace Go.Proofs.YteegmcfobgpemaaGreat
open Go.RowKit
set_option linter.unusedVariables false
set_option linter.unusedSimpArgs false
set_option maxRecDepth 100000
theorem trmOk_iff (ns : List Nd) : trmOk ns ↔ ∀ m, m < ns.length → (nT ns m).rng ∧ (nT ns m).ok := by
  constructor
  · intro h m hm
    obtain ⟨x, hx⟩ := nd_at hm
    unfold nT
    rw [getD_at hx]
    exact h x (List.mem_of_getElem? hx)
  · intro h x hx
    obtain ⟨m, hm⟩ := List.getElem?_of_mem hx
    have := h m (List.getElem?_eq_some_iff.1 hm).1
    unfold nT at this
    rw [getD_at hm] at this
    exact this
theorem trmOk.same {ns ns' : List Nd} (h : trmOk ns) (hl : ns'.length = ns.length) (ht : ∀ m, nT ns' m = nT ns m) : trmOk ns' := (trmOk_iff _).2 fun m hm => by
  rw [ht]; exact (trmOk_iff _).1 h m (by omega)
theorem trmOk.parts {c : Cl} (h : trmOk c.ns) {n : Nat} (hn : n < c.ns.length) : trmOk (pC c n).1.ns := by
  have h0 := (trmOk_iff _).1 h n hn
  unfold pC
  split
  · exact h
  · split
    · refine trmOk.all (fun t ht => ⟨((Tm.rng_iff _).1 h0.1).2 t ht, ((Tm.ok_iff _).1 h0.2).2 t ht⟩) ?_
      refine h.same (by unfold Cl.setFi setFi; simp) fun m => ?_
      unfold Cl.setFi setFi nT
      simp only
      rw [List.getD_eq_getElem?_getD, List.getElem?_set]
      split
      · rename_i e
        subst e
        first | rfl | (rw [if_pos hn]; rfl)
      · rw [← List.getD_eq_getElem?_getD]
    · exact h
theorem headC_keep : ∀ (k : Nat) {ns : List Nd} {n : Nat} {r}, headC k ns n = some r → upOk ns → n < ns.length → upOk r.1 ∧ r.1.length = ns.length ∧ r.2 < ns.length ∧ (∀ m, nT r.1 m = nT ns m) ∧ ∀ m, nK r.1 m = nK ns m
  | 0, _, _, _, e, _, _ => by cases e
  | k + 1, ns, n, r, e, hu, hn => by
    rw [headC] at e
    split at e
    · cases e; exact ⟨hu, rfl, hn, fun _ => rfl, fun _ => rfl⟩
    · have h1 : nU ns (nU ns n) < ns.length := hu _ (hu n hn)
      have hl : (setUp ns n (nU ns (nU ns n))).length = ns.length := setUpLen _ _ _
      have hu1 := hu.set (n := n) h1
      obtain ⟨a1, a2, a3, a4, a5⟩ := headC_keep k e hu1 (hu1 n (by rw [hl]; exact hn))
      exact ⟨a1, a2.trans hl, by rw [hl] at a3; exact a3, fun m => (a4 m).trans (tk_up.1 m), fun m => (a5 m).trans (tk_up.2 m)⟩
theorem ClsC.ups {c : Cl} {H r : Nat → Nat} {E} (h : ClsC c H r E) : upOk c.ns := fun m hm => (h.up m hm).1
theorem addAll_psU (l : List Tm) : ∀ c : Cl, (addAll c l).ps = c.ps := by
  induction l with
  | nil => exact fun c => rfl
  | cons t l ih => exact fun c => ih (addC c t)
theorem partsC_ps (c : Cl) (n : Nat) : (pC c n).1.ps = c.ps := by
  unfold pC
  split
  · rfl
  · split
    · rw [addAll_psU]; rfl
    · rfl
def kidOk (ns : List Nd) : Prop := ∀ n, n < ns.length → nK ns n ≠ 0 → ∀ i, i < (nT ns n).l.length → nK ns n + i < ns.length
theorem kidOk.fi {ns : List Nd} (h : kidOk ns) {n : Nat} (hn : n < ns.length) (hl : ns.length ≤ 1000000) : (nT ns n).l.length ≠ 0 → nK ns n ≤ 1000000 := fun h0 => by
  by_cases hk : nK ns n = 0
  · omega
  · have := h n hn hk 0 (by omega)
    omega
theorem parts_pos {c : Cl} {n : Nat} : (pC c n).2.1 ≤ (pC c n).2.2 ∧ (pC c n).2.2 - (pC c n).2.1 ≤ (nT c.ns n).l.length := by
  unfold pC
  split
  · simp
  · split <;> simp
theorem addAll_fi (l : List Tm) : ∀ c : Cl, ∃ N, (addAll c l).ns = c.ns ++ N ∧ N.length = l.length ∧ ∀ x ∈ N, x.fi = 0 := by
  induction l with
  | nil => exact fun c => ⟨[], by simp [addAll], rfl, fun x hx => by cases hx⟩
  | cons t l ih =>
    intro c
    obtain ⟨N, h, h2, h3⟩ := ih (addC c t)
    refine ⟨⟨t, 0, addU c t, 0⟩ :: N, ?_, by simp [h2], fun x hx => ?_⟩
    · show (addAll (addC c t) l).ns = _
      rw [h]
      show (c.ns ++ [⟨t, 0, addU c t, 0⟩]) ++ N = _
      simp
    · rcases List.mem_cons.1 hx with rfl | hx
      · rfl
      · exact h3 x hx
theorem kidOk.parts {c : Cl} (h : kidOk c.ns) {n : Nat} (hn : n < c.ns.length) : kidOk (pC c n).1.ns := by
  unfold pC
  split
  · exact h
  · split
    · obtain ⟨N, e1, e2, e3⟩ := addAll_fi (nT c.ns n).l (c.setFi n c.ns.length)
      have hsl : (c.setFi n c.ns.length).ns.length = c.ns.length := by unfold Cl.setFi setFi; simp
      intro m hm hk i hi
      have hlen : (addAll (c.setFi n c.ns.length) (nT c.ns n).l).ns.length = c.ns.length + (nT c.ns n).l.length := by rw [addAll_lenU, hsl]
      simp only at hm hk hi ⊢
      rw [hlen] at hm ⊢
      rcases Nat.lt_or_ge m c.ns.length with hml | hml
      · have hg : (addAll (c.setFi n c.ns.length) (nT c.ns n).l).ns.getD m ndD = (setFi c.ns n c.ns.length).getD m ndD := by
          rw [e1, List.getD_eq_getElem?_getD, List.getElem?_append_left (by rw [hsl]; exact hml), ← List.getD_eq_getElem?_getD]; rfl
        have hs : (setFi c.ns n c.ns.length).getD m ndD = if n = m then { c.ns.getD n ndD with fi := c.ns.length } else c.ns.getD m ndD := by
          unfold setFi
          rw [List.getD_eq_getElem?_getD, List.getElem?_set]
          by_cases e : n = m
          · rw [if_pos e, if_pos e, if_pos hn]; rfl
          · rw [if_neg e, if_neg e, ← List.getD_eq_getElem?_getD]
        have hi : i < ((addAll (c.setFi n c.ns.length) (nT c.ns n).l).ns.getD m ndD).t.l.length := hi
        have hk : ((addAll (c.setFi n c.ns.length) (nT c.ns n).l).ns.getD m ndD).fi ≠ 0 := hk
        show ((addAll (c.setFi n c.ns.length) (nT c.ns n).l).ns.getD m ndD).fi + i < _
        rw [hg, hs] at hk hi ⊢
        by_cases e : n = m
        · subst e
          rw [if_pos rfl] at hi ⊢
          have hi : i < (c.ns.getD n ndD).t.l.length := hi
          show c.ns.length + i < _
          unfold nT
          omega
        · rw [if_neg e] at hk hi ⊢
          have := h m hml hk i hi
          unfold nK at this
          omega
      · exfalso
        apply hk
        unfold nK
        rw [e1, List.getD_eq_getElem?_getD, List.getElem?_append_right (by rw [hsl]; exact hml)]
        cases hN : N[m - (c.setFi n c.ns.length).ns.length]? with
        | none => rfl
        | some x => exact e3 x (List.mem_of_getElem? hN)
    · exact h
theorem fst_le {c : Cl} (h : kidOk c.ns) {n : Nat} (hn : n < c.ns.length) (hl : c.ns.length ≤ 1000000) : (pC c n).2.1 ≤ 1000000 := by
  unfold pC
  split
  · exact Nat.zero_le _
  · rename_i h0
    split
    · exact hl
    · exact h.fi hn hl (by omega)
theorem snd_le {c : Cl} (h : kidOk c.ns) {n : Nat} (hn : n < c.ns.length) : (pC c n).2.2 ≤ (pC c n).1.ns.length := by
  unfold pC
  split
  · exact Nat.zero_le _
  · rename_i h0
    split
    · rw [addAll_lenU]
      show c.ns.length + _ ≤ (setFi c.ns n c.ns.length).length + _
      unfold setFi
      rw [List.length_set]
      exact Nat.le_refl _
    · rename_i hk
      have := h n hn hk ((nT c.ns n).l.length - 1) (by omega)
      show nK c.ns n + (nT c.ns n).l.length ≤ c.ns.length
      omega
theorem rev_at {m k : Nat} (h : k < m) (f : Nat → Nat × Nat) : ((List.range m).reverse.map f)[k]? = some (f (m - 1 - k)) := by
  rw [List.getElem?_map, List.getElem?_reverse (by simpa using h), List.length_range, List.getElem?_range (by omega)]
  rfl
-- 
set_option maxHeartbeats 2000000 in
theorem uPushParts_abs (c : Cl) (a b : Nat) (ha : a < c.ns.length) (hb : b < c.ns.length) (hT : trmOk c.ns) (hp : pw c.ns ≤ 1000000) (hps : c.ps.length ≤ 50000000) (hfa : (nT c.ns a).l.length ≠ 0 → nK c.ns a ≤ 1000000) (hfb : (nT (pC c a).1.ns b).l.length ≠ 0 → nK (pC c a).1.ns b ≤ 1000000) (hb1 : b < (pC c a).1.ns.length) (hto1 : (pC c a).2.2 ≤ 1000000) (hf1 : (pC c a).2.1 ≤ 1000000) (hf2 : (pC (pC c a).1 b).2.1 ≤ 1000000) : AFunO Tryz.prog 173 (cstM c) [.bp 350001 0 [], .val (.i (a : Int)), .val (.i (b : Int))] (.tup []) (cstM (pushP c a b)) := by
  have hp1 : pw (pC c a).1.ns ≤ 1000000 := by rw [pw_parts]; exact hp
  have hp2 : pw (pC (pC c a).1 b).1.ns ≤ 1000000 := by rw [pw_parts]; exact hp1
  have hT1 := hT.parts ha
  have q1 := uParts_abs c a ha hT (Nat.le_trans (len_pw _) hp1) hfa
  have q2 := uParts_abs (pC c a).1 b hb1 hT1 (Nat.le_trans (len_pw _) hp2) hfb
  have hpp := parts_pos (c := c) (n := a)
  have hps2 : (pC (pC c a).1 b).1.ps = c.ps := by rw [partsC_ps, partsC_ps]
  obtain ⟨c2, hc2⟩ : ∃ c2, c2 = (pC (pC c a).1 b).1 := ⟨_, rfl⟩
  obtain ⟨fr, hfr⟩ : ∃ x, x = (pC c a).2.1 := ⟨_, rfl⟩
  obtain ⟨to, hto⟩ : ∃ x, x = (pC c a).2.2 := ⟨_, rfl⟩
  obtain ⟨ot, hot⟩ : ∃ x, x = (pC (pC c a).1 b).2.1 := ⟨_, rfl⟩
  obtain ⟨m, hm⟩ : ∃ m, m = to - fr := ⟨_, rfl⟩
  rw [← hfr, ← hto] at q1 hpp
  rw [← hc2, ← hot] at q2
  rw [← hc2] at hps2
  rw [← hfr] at hf1
  rw [← hto] at hto1
  rw [← hot] at hf2
  have hP : pushP c a b = ⟨c2.ns, c2.vr, c2.ps ++ (List.range m).reverse.map fun i => (fr + i, ot + i)⟩ := by unfold pushP; rw [← hc2, ← hfr, ← hto, ← hot, ← hm]
  obtain ⟨R, hR⟩ : ∃ R, R = (List.range m).reverse.map fun i => (fr + i, ot + i) := ⟨_, rfl⟩
  have hRl : R.length = m := by rw [hR]; simp
  rw [hP, ← hR]
  refine afunO_of Tryz.func173 Tryz.ntmps173 rfl rfl rfl rfl rfl rfl ?_
  intro w U hU
  refine aS (aR ?_)
  (refine nx (aM (gN rfl) rfl rfl rfl rfl rfl) rfl ?_)
  (refine nx (aM (gN rfl) rfl rfl rfl rfl rfl) rfl ?_)
  (refine nx (a_callO (gN rfl) rfl rfl rfl rfl rfl (q1) (by repeat (first | exact trivial | refine ⟨rfl, ?_⟩)) (by first | rfl | kernel_rfl) (by first | rfl | kernel_rfl) (by first | rfl | kernel_rfl) (by first | rfl | kernel_rfl) (hnb_of (by first | rfl | kernel_rfl))) rfl ?_)
  (refine nx (aM (gN rfl) rfl rfl rfl rfl rfl) rfl ?_)
  (refine nx (aX (gN rfl) rfl rfl rfl rfl rfl rfl) rfl ?_)
  (refine nx (aX (gN rfl) rfl rfl rfl rfl rfl rfl) rfl ?_)
  (refine nx (aA (gN rfl) rfl rfl rfl rfl rfl) rfl ?_)
  (refine nx (aA (gN rfl) rfl rfl rfl rfl rfl) rfl ?_)
  show AWp _ _ _ _ _ _ _
  refine aS (aR ?_)
  (refine nx (aM (gN rfl) rfl rfl rfl rfl rfl) rfl ?_)
  (refine nx (aM (gN rfl) rfl rfl rfl rfl rfl) rfl ?_)
  (refine nx (a_callO (gN rfl) rfl rfl rfl rfl rfl (q2) (by repeat (first | exact trivial | refine ⟨rfl, ?_⟩)) (by first | rfl | kernel_rfl) (by first | rfl | kernel_rfl) (by first | rfl | kernel_rfl) (by first | rfl | kernel_rfl) (hnb_of (by first | rfl | kernel_rfl))) rfl ?_)
  (refine nx (aM (gN rfl) rfl rfl rfl rfl rfl) rfl ?_)
  (refine nx (aX (gN rfl) rfl rfl rfl rfl rfl rfl) rfl ?_)
  (refine nx (aX (gN rfl) rfl rfl rfl rfl rfl rfl) rfl ?_)
  (refine nx (aA (gN rfl) rfl rfl rfl rfl rfl) rfl ?_)
  (refine nx (aA (gN rfl) rfl rfl rfl rfl rfl) rfl ?_)
  show AWp _ _ _ _ _ _ _
  refine aS (aR ?_)
  (refine nx (aM (gN rfl) rfl rfl rfl rfl rfl) rfl ?_)
  (refine nx (aM (gN rfl) rfl rfl rfl rfl rfl) rfl ?_)
  (refine nx (a_sub (gN rfl) rfl rfl rfl rfl rfl rfl (by first | omega | (simp only [List.length_map, List.length_append, List.length_cons, List.length_nil] <;> omega) | (simp <;> omega))) rfl ?_)
  (refine nx (a_sub (gN rfl) rfl rfl rfl rfl rfl rfl (by first | omega | (simp only [List.length_map, List.length_append, List.length_cons, List.length_nil] <;> omega) | (simp <;> omega))) rfl ?_)
  (refine nx (aA (gN rfl) rfl rfl rfl rfl rfl) rfl ?_)
  show AWp _ _ _ _ _ _ _
  refine aB (awp_count m (fun k => (0, AV.bp 350001 0 []) :: (6, .val (.i (fr : Int))) :: (8, .val (.i (ot : Int))) :: (10, .val (.i ((m : Int) - 1 - k))) :: cstM ⟨c2.ns, c2.vr, c2.ps ++ R.take k⟩) (wk_sub ⟨rfl, rfl, rfl, ?_, rfl, rfl, rfl, ?_, rfl, rfl, ?_, trivial⟩) ?_)
  · show some (AV.val (.i ((to : Int) - fr - 1))) = some (AV.val (.i ((m : Int) - 1 - (0 : Nat))))
    have e : (to : Int) - fr - 1 = (m : Int) - 1 - ((0 : Nat) : Int) := by omega
    rw [e]
  · show some (AV.sl 300002 0 c2.ps.length 2) = some (AV.sl 300002 0 (c2.ps ++ []).length 2)
    rw [List.append_nil]
  · show some (AV.mrow 207 2 (c2.ps.map psv)) = some (AV.mrow 207 2 ((c2.ps ++ []).map psv))
    rw [List.append_nil]
  intro k hk
  refine aS (aS (aR ?_))
  (refine nx (aM (gN rfl) rfl rfl rfl rfl rfl) rfl ?_)
  (refine nx (a_geq (gN rfl) rfl rfl rfl rfl rfl rfl) rfl ?_)
  show AWp _ _ _ _ _ _ _
  refine aC rfl (fun hc => ?_) (fun hc => ?_)
  · have hkl : k < m := by
      have : ((m : Int) - 1 - k) ≥ 0 := by simpa using hc
      omega
    have hRk : R[k]? = some (fr + (m - 1 - k), ot + (m - 1 - k)) := by rw [hR]; exact rev_at hkl _
    have hlk : (c2.ps ++ R.take k).length ≤ 100000000 := by rw [List.length_append, List.length_take, hps2]; omega
    have hpush := uPush_abs ⟨c2.ns, c2.vr, c2.ps ++ R.take k⟩ (fr + (m - 1 - k)) (ot + (m - 1 - k)) hlk
    have e1 : (((fr + (m - 1 - k) : Nat)) : Int) = (fr : Int) + ((m : Int) - 1 - k) := by omega
    have e2 : (((ot + (m - 1 - k) : Nat)) : Int) = (ot : Int) + ((m : Int) - 1 - k) := by omega
    rw [e1, e2] at hpush
    refine aK ?_
    show AWp _ _ _ _ _ _ _
    refine aS (aB (aR ?_))
    (refine nx (aM (gN rfl) rfl rfl rfl rfl rfl) rfl ?_)
    (refine nx (aM (gN rfl) rfl rfl rfl rfl rfl) rfl ?_)
    (refine nx (aM (gN rfl) rfl rfl rfl rfl rfl) rfl ?_)
    (refine nx (a_add (gN rfl) rfl rfl rfl rfl rfl rfl (by first | omega | (simp only [List.length_map, List.length_append, List.length_cons, List.length_nil] <;> omega) | (simp <;> omega))) rfl ?_)
    (refine nx (aM (gN rfl) rfl rfl rfl rfl rfl) rfl ?_)
    (refine nx (aM (gN rfl) rfl rfl rfl rfl rfl) rfl ?_)
    (refine nx (a_add (gN rfl) rfl rfl rfl rfl rfl rfl (by first | omega | (simp only [List.length_map, List.length_append, List.length_cons, List.length_nil] <;> omega) | (simp <;> omega))) rfl ?_)
    (refine nx (a_callO (gN rfl) rfl rfl rfl rfl rfl (hpush) (by repeat (first | exact trivial | refine ⟨rfl, ?_⟩)) (by first | rfl | kernel_rfl) (by first | rfl | kernel_rfl) (by first | rfl | kernel_rfl) (by first | rfl | kernel_rfl) (hnb_of (by first | rfl | kernel_rfl))) rfl ?_)
    show AWp _ _ _ _ _ _ _
    refine aR ?_
    (refine nx (aM (gN rfl) rfl rfl rfl rfl rfl) rfl ?_)
    (refine nx (a_sub (gN rfl) rfl rfl rfl rfl rfl rfl (by first | omega | (simp only [List.length_map, List.length_append, List.length_cons, List.length_nil] <;> omega) | (simp <;> omega))) rfl ?_)
    (refine nx (aA (gN rfl) rfl rfl rfl rfl rfl) rfl ?_)
    refine ⟨hkl, ?_⟩
    show Wk _ _ _ _ (_ :: _ :: _ :: (10, .val (.i ((m : Int) - 1 - ((k + 1 : Nat) : Int)))) :: cstM ⟨c2.ns, c2.vr, c2.ps ++ R.take (k + 1)⟩)
    have hps3 : c2.ps ++ R.take (k + 1) = c2.ps ++ R.take k ++ [(fr + (m - 1 - k), ot + (m - 1 - k))] := by rw [List.take_add_one, hRk, ← List.append_assoc]; rfl
    rw [hps3, show (m : Int) - 1 - ((k + 1 : Nat) : Int) = (m : Int) - 1 - k - 1 by omega]
    exact wk_sub ⟨rfl, rfl, rfl, rfl, rfl, rfl, rfl, rfl, rfl, rfl, rfl, trivial⟩
  · have hkl : k = m := by
      have : ¬ ((m : Int) - 1 - k) ≥ 0 := by simpa using hc
      omega
    subst hkl
    rw [show R.take k = R by rw [← hRl, List.take_length]]
    exact aE ⟨.inl rfl, _, Wk.refl _, rfl, rfl, rfl, rfl, rfl, rfl, rfl, rfl, trivial⟩
theorem hUno {U : UX} {pre : List Nat} (hU : ∀ k v, U.f k = some v → hasN pre k = true) {n : Nat} (h : hasN pre n = false) : U.f n = none := by
  cases e : U.f n with
  | none => rfl
  | some v => rw [hU n v e] at h; cases h
theorem hUlow (U : UX) {n : Nat} (h : n < 400000) : U.f n = none := by
  cases e : U.f n with
  | none => rfl
  | some v => have := (U.hf n v e).1; omega
structure Fit (c : Cl) : Prop where
  up : upOk c.ns
  kid : kidOk c.ns
  trm : trmOk c.ns
  big : pw c.ns ≤ 1000000
theorem parts_len {c : Cl} {n : Nat} : c.ns.length ≤ (pC c n).1.ns.length := by
  unfold pC
  split
  · exact Nat.le_refl _
  · split
    · rw [addAll_lenU]; show _ ≤ (setFi c.ns n c.ns.length).length + _; unfold setFi; rw [List.length_set]; omega
    · exact Nat.le_refl _
-- 
set_option maxHeartbeats 8000000 in
theorem uJoin_abs (k : Nat) (c : Cl) (x y : Nat) (q : Cl × Bool) (hj : joinC k c x y = some q) (hx : x < c.ns.length) (hy : y < c.ns.length) (hF : Fit c) (hps : c.ps.length ≤ 50000000) : AFunO Tryz.prog 152 (cstM c) [.bp 350001 0 [], .val (.i (x : Int)), .val (.i (y : Int))] (.val (.b q.2)) (cstM q.1) := by
  have hl : c.ns.length ≤ 1000000 := Nat.le_trans (len_pw _) hF.big
  unfold joinC at hj
  cases h1 : headC k c.ns x with
  | none => rw [h1] at hj; cases hj
  | some q1 =>
  rw [h1] at hj
  simp only at hj
  cases h2 : headC k q1.1 y with
  | none => rw [h2] at hj; cases hj
  | some q2 =>
  rw [h2] at hj
  simp only at hj
  obtain ⟨u1, l1, x1, t1, k1⟩ := headC_keep k h1 hF.up hx
  obtain ⟨u2, l2, y2, t2, k2⟩ := headC_keep k h2 u1 (by rw [l1]; exact hy)
  have hd1 := uHead_abs c.vr c.ps k c.ns x q1 h1 hF.up hx hl
  have hd2 := uHead_abs c.vr c.ps k q1.1 y q2 h2 u1 (by rw [l1]; exact hy) (by omega)
  obtain ⟨c3, hc3⟩ : ∃ c3 : Cl, c3 = ⟨q2.1, c.vr, c.ps⟩ := ⟨_, rfl⟩
  have hn3 : c3.ns = q2.1 := by rw [hc3]
  have hl3 : c3.ns.length = c.ns.length := by rw [hn3]; omega
  have ht3 : ∀ m, nT c3.ns m = nT c.ns m := fun m => by rw [hn3, t2, t1]
  have hk3 : ∀ m, nK c3.ns m = nK c.ns m := fun m => by rw [hn3, k2, k1]
  have hT3 : trmOk c3.ns := hF.trm.same hl3 ht3
  have hlm3 : (c3.ns.map Nd.cv).length = c3.ns.length := List.length_map ..
  rw [← hc3, ← hn3] at hj
  refine afunO_of Tryz.func152 Tryz.ntmps152 rfl rfl rfl rfl rfl rfl ?_
  intro w U hU
  refine aS (aR ?_)
  (refine nx (aA (gN rfl) rfl rfl rfl rfl rfl) rfl ?_)
  show AWp _ _ _ _ _ _ _
  refine AWp.wk (wk_renF 300001 400001 rfl rfl (hUno hU (by kernel_rfl)) (by kernel_rfl) (by kernel_rfl) (by kernel_rfl)) ?_
  refine aS (aR ?_)
  (refine nx (aM (gN rfl) rfl rfl rfl rfl rfl) rfl ?_)
  (refine nx (aM (gN rfl) rfl rfl rfl rfl rfl) rfl ?_)
  (refine nx (a_callO (gN rfl) rfl rfl rfl rfl rfl (hd1) (by repeat (first | exact trivial | refine ⟨rfl, ?_⟩)) (by first | rfl | kernel_rfl) (by first | rfl | kernel_rfl) (by first | rfl | kernel_rfl) (by first | rfl | kernel_rfl) (hnb_of (by first | rfl | kernel_rfl))) rfl ?_)
  (refine nx (aM (gN rfl) rfl rfl rfl rfl rfl) rfl ?_)
  (refine nx (aM (gN rfl) rfl rfl rfl rfl rfl) rfl ?_)
  (refine nx (a_callO (gN rfl) rfl rfl rfl rfl rfl (hd2) (by repeat (first | exact trivial | refine ⟨rfl, ?_⟩)) (by first | rfl | kernel_rfl) (by first | rfl | kernel_rfl) (by first | rfl | kernel_rfl) (by first | rfl | kernel_rfl) (hnb_of (by first | rfl | kernel_rfl))) rfl ?_)
  (refine nx (aA (gN rfl) rfl rfl rfl rfl rfl) rfl ?_)
  (refine nx (aA (gN rfl) rfl rfl rfl rfl rfl) rfl ?_)
  show AWp _ _ _ _ _ _ _
  refine AWp.wk ((wk_sub (s' := (0, AV.bp 350001 0 []) :: (1, .val (.i (q1.2 : Int))) :: (2, .val (.i (q2.2 : Int))) :: cstF ⟨q2.1, c.vr, c.ps⟩) ⟨rfl, rfl, rfl, rfl, rfl, rfl, rfl, rfl, rfl, rfl, trivial⟩).trans (wk_renF 400001 300001 rfl rfl (hUlow U (by decide)) (by kernel_rfl) (by kernel_rfl) (by kernel_rfl))) ?_
  show AWp _ _ _ _ _ _ ((0, AV.bp 350001 0 []) :: (1, .val (.i (q1.2 : Int))) :: (2, .val (.i (q2.2 : Int))) :: cstM ⟨q2.1, c.vr, c.ps⟩)
  rw [← hc3]
  refine aS (aS (aR ?_))
  (refine nx (aM (gN rfl) rfl rfl rfl rfl rfl) rfl ?_)
  (refine nx (aM (gN rfl) rfl rfl rfl rfl rfl) rfl ?_)
  (refine nx (a_eql (gN rfl) rfl rfl rfl rfl rfl rfl) rfl ?_)
  show AWp _ _ _ _ _ _ _
  by_cases he : q1.2 = q2.2
  case pos =>
    rw [if_pos he] at hj
    cases hj
    refine aC rfl (fun hc => ?_) (fun hc => ?_)
    case refine_2 => rw [he] at hc; simp at hc
    refine aS (aR ?_)
    (refine nx (aA (gN rfl) rfl rfl rfl rfl rfl) rfl ?_)
    show AWp _ _ _ _ _ _ _
    exact aT ⟨.inr rfl, _, Wk.refl _, rfl, rfl, rfl, rfl, rfl, rfl, rfl, rfl, trivial⟩
  rw [if_neg he] at hj
  refine aC rfl (fun hc => ?_) (fun hc => aK ?_)
  · have : (q1.2 : Int) = q2.2 := by simpa using hc
    omega
  show AWp _ _ _ _ _ _ _
  refine AWp.wk (wk_sub (s' := (0, AV.bp 350001 0 []) :: (1, .val (.i (q1.2 : Int))) :: (2, .val (.i (q2.2 : Int))) :: cstM c3) ⟨rfl, rfl, rfl, rfl, rfl, rfl, rfl, rfl, rfl, rfl, trivial⟩) ?_
  have ha3 : q1.2 < c3.ns.length := by omega
  have hb3 : q2.2 < c3.ns.length := by omega
  obtain ⟨na, hna⟩ := nd_at ha3
  obtain ⟨nb, hnb⟩ := nd_at hb3
  have hna' := Nd.map_at hna
  have hnb' := Nd.map_at hnb
  have hta : nT c3.ns q1.2 = na.t := by unfold nT; rw [getD_at hna]
  have htb : nT c3.ns q2.2 = nb.t := by unfold nT; rw [getD_at hnb]
  obtain ⟨a, ha⟩ : ∃ a, a = if nb.t.f < na.t.f then q2.2 else q1.2 := ⟨_, rfl⟩
  obtain ⟨b, hb⟩ : ∃ b, b = if nb.t.f < na.t.f then q1.2 else q2.2 := ⟨_, rfl⟩
  have hj : joinTo c3 a b = q := by
    rw [hta, htb] at hj
    split at hj
    · rename_i h; rw [if_pos h] at ha hb; rw [ha, hb]; exact Option.some.inj hj
    · rename_i h; rw [if_neg h] at ha hb; rw [ha, hb]; exact Option.some.inj hj
  have hal : a < c3.ns.length := by rw [ha]; split <;> assumption
  have hbl : b < c3.ns.length := by rw [hb]; split <;> assumption
  refine awp_mid ((0, AV.bp 350001 0 []) :: (1, .val (.i (a : Int))) :: (2, .val (.i (b : Int))) :: cstM c3) (aS (aD (by kernel_rfl) (by kernel_rfl) ?_)) ?_
  · skip
    (refine nx (aM (gN rfl) rfl rfl rfl rfl rfl) rfl ?_)
    (refine nx (aNc (gN rfl) rfl rfl rfl rfl rfl) rfl ?_)
    (refine nx (aF (gN rfl) rfl rfl rfl rfl rfl rfl rfl rfl rfl) rfl ?_)
    (refine nx (aLf (gN rfl) rfl rfl rfl rfl rfl rfl rfl rfl rfl rfl rfl rfl rfl) rfl ?_)
    (refine nx (aM (gN rfl) rfl rfl rfl rfl rfl) rfl ?_)
    (refine nx (aIm (k := q1.2) (gN rfl) rfl rfl rfl rfl rfl rfl rfl rfl rfl (by first | rfl | omega | (simp only [List.length_set, List.length_map, List.length_append, List.length_cons, List.length_nil] <;> omega) | (simp <;> omega))) rfl ?_)
    (refine nx (a_fieldM (gN rfl) rfl rfl rfl rfl rfl rfl rfl rfl rfl) rfl ?_)
    (refine nx (a_fieldM (gN rfl) rfl rfl rfl rfl rfl rfl rfl rfl rfl) rfl ?_)
    (refine nx (a_loadM (gN rfl) rfl rfl rfl rfl rfl rfl rfl rfl (hna') rfl (by first | rfl | omega | (simp only [List.length_set, List.length_map, List.length_append, List.length_cons, List.length_nil] <;> omega) | (simp <;> omega)) rfl rfl) rfl ?_)
    (refine nx (aM (gN rfl) rfl rfl rfl rfl rfl) rfl ?_)
    (refine nx (aNc (gN rfl) rfl rfl rfl rfl rfl) rfl ?_)
    (refine nx (aF (gN rfl) rfl rfl rfl rfl rfl rfl rfl rfl rfl) rfl ?_)
    (refine nx (aLf (gN rfl) rfl rfl rfl rfl rfl rfl rfl rfl rfl rfl rfl rfl rfl) rfl ?_)
    (refine nx (aM (gN rfl) rfl rfl rfl rfl rfl) rfl ?_)
    (refine nx (aIm (k := q2.2) (gN rfl) rfl rfl rfl rfl rfl rfl rfl rfl rfl (by first | rfl | omega | (simp only [List.length_set, List.length_map, List.length_append, List.length_cons, List.length_nil] <;> omega) | (simp <;> omega))) rfl ?_)
    (refine nx (a_fieldM (gN rfl) rfl rfl rfl rfl rfl rfl rfl rfl rfl) rfl ?_)
    (refine nx (a_fieldM (gN rfl) rfl rfl rfl rfl rfl rfl rfl rfl rfl) rfl ?_)
    (refine nx (a_loadM (gN rfl) rfl rfl rfl rfl rfl rfl rfl rfl (hnb') rfl (by first | rfl | omega | (simp only [List.length_set, List.length_map, List.length_append, List.length_cons, List.length_nil] <;> omega) | (simp <;> omega)) rfl rfl) rfl ?_)
    (refine nx (a_gtr (gN rfl) rfl rfl rfl rfl rfl rfl) rfl ?_)
    refine ⟨by kernel_rfl, ?_⟩
    show AWp _ _ _ _ _ _ _
    refine aC rfl (fun hc => ?_) (fun hc => aK ?_)
    · have hg : nb.t.f < na.t.f := by simpa using hc
      rw [if_pos hg] at ha hb
      refine aR ?_
      (refine nx (aM (gN rfl) rfl rfl rfl rfl rfl) rfl ?_)
      (refine nx (aM (gN rfl) rfl rfl rfl rfl rfl) rfl ?_)
      (refine nx (aA (gN rfl) rfl rfl rfl rfl rfl) rfl ?_)
      (refine nx (aA (gN rfl) rfl rfl rfl rfl rfl) rfl ?_)
      rw [ha, hb]
      exact wk_sub ⟨rfl, rfl, rfl, rfl, rfl, rfl, rfl, rfl, rfl, rfl, trivial⟩
    · have hg : ¬ nb.t.f < na.t.f := by simpa using hc
      rw [if_neg hg] at ha hb
      rw [ha, hb]
      exact wk_sub ⟨rfl, rfl, rfl, rfl, rfl, rfl, rfl, rfl, rfl, rfl, trivial⟩
  clear hna hnb hna' hnb' hta htb ha hb he hd1 hd2
  obtain ⟨xa, hxa⟩ := nd_at hal
  obtain ⟨xb, hxb⟩ := nd_at hbl
  have hxa' := Nd.map_at hxa
  have hxb' := Nd.map_at hxb
  have hta : nT c3.ns a = xa.t := by unfold nT; rw [getD_at hxa]
  have htb : nT c3.ns b = xb.t := by unfold nT; rw [getD_at hxb]
  unfold joinTo at hj
  rw [hta, htb] at hj
  refine aS (aD (by kernel_rfl) (by kernel_rfl) ?_)
  (refine nx (aM (gN rfl) rfl rfl rfl rfl rfl) rfl ?_)
  (refine nx (aNc (gN rfl) rfl rfl rfl rfl rfl) rfl ?_)
  (refine nx (aF (gN rfl) rfl rfl rfl rfl rfl rfl rfl rfl rfl) rfl ?_)
  (refine nx (aLf (gN rfl) rfl rfl rfl rfl rfl rfl rfl rfl rfl rfl rfl rfl rfl) rfl ?_)
  (refine nx (aM (gN rfl) rfl rfl rfl rfl rfl) rfl ?_)
  (refine nx (aIm (k := a) (gN rfl) rfl rfl rfl rfl rfl rfl rfl rfl rfl (by first | rfl | omega | (simp only [List.length_set, List.length_map, List.length_append, List.length_cons, List.length_nil] <;> omega) | (simp <;> omega))) rfl ?_)
  (refine nx (a_fieldM (gN rfl) rfl rfl rfl rfl rfl rfl rfl rfl rfl) rfl ?_)
  (refine nx (a_loadM (gN rfl) rfl rfl rfl rfl rfl rfl rfl rfl (hxa') rfl (by first | rfl | omega | (simp only [List.length_set, List.length_map, List.length_append, List.length_cons, List.length_nil] <;> omega) | (simp <;> omega)) rfl rfl) rfl ?_)
  (refine nx (aM (gN rfl) rfl rfl rfl rfl rfl) rfl ?_)
  (refine nx (aNc (gN rfl) rfl rfl rfl rfl rfl) rfl ?_)
  (refine nx (aF (gN rfl) rfl rfl rfl rfl rfl rfl rfl rfl rfl) rfl ?_)
  (refine nx (aLf (gN rfl) rfl rfl rfl rfl rfl rfl rfl rfl rfl rfl rfl rfl rfl) rfl ?_)
  (refine nx (aM (gN rfl) rfl rfl rfl rfl rfl) rfl ?_)
  (refine nx (aIm (k := b) (gN rfl) rfl rfl rfl rfl rfl rfl rfl rfl rfl (by first | rfl | omega | (simp only [List.length_set, List.length_map, List.length_append, List.length_cons, List.length_nil] <;> omega) | (simp <;> omega))) rfl ?_)
  (refine nx (a_fieldM (gN rfl) rfl rfl rfl rfl rfl rfl rfl rfl rfl) rfl ?_)
  (refine nx (a_loadM (gN rfl) rfl rfl rfl rfl rfl rfl rfl rfl (hxb') rfl (by first | rfl | omega | (simp only [List.length_set, List.length_map, List.length_append, List.length_cons, List.length_nil] <;> omega) | (simp <;> omega)) rfl rfl) rfl ?_)
  (refine nx (a_alloc (gN rfl) rfl rfl rfl rfl rfl rfl rfl rfl rfl rfl) (by kernel_rfl) ?_)
  (refine nx (a_alloc (gN rfl) rfl rfl rfl rfl rfl rfl rfl rfl rfl rfl) (by kernel_rfl) ?_)
  (refine nx (aSt (gN rfl) rfl rfl rfl rfl rfl rfl rfl rfl rfl rfl) rfl ?_)
  (refine nx (aSt (gN rfl) rfl rfl rfl rfl rfl rfl rfl rfl rfl rfl) rfl ?_)
  refine ⟨by kernel_rfl, ?_⟩
  show AWp _ _ _ _ _ _ _
  refine AWp.wk (wk_sub (s' := (0, AV.bp 350001 0 []) :: (1, .val (.i (a : Int))) :: (2, .val (.i (b : Int))) :: (7, .bp 7 0 []) :: (100007, .bx xa.t.cw) :: (8, .bp 8 0 []) :: (100008, .bx xb.t.cw) :: cstM c3) ⟨rfl, rfl, rfl, rfl, rfl, rfl, rfl, rfl, rfl, rfl, rfl, rfl, rfl, rfl, trivial⟩) ?_
  have hiv := uIsVar_abs w xa.t
  by_cases hv : xa.t.f < 0
  case pos =>
    rw [show decide (xa.t.f < 0) = true by simpa using hv] at hiv
    rw [if_pos hv] at hj
    subst hj
    obtain ⟨c4, hc4⟩ : ∃ c4, c4 = c3 := ⟨_, rfl⟩
    rw [← hc4] at hxa hlm3 ⊢
    have hya := hxa
    have hya' := Nd.map_at hya
    have hl4 : a < c4.ns.length := by rw [hc4]; exact hal
    refine aS (aS (aR ?_))
    (refine nx (aL (gN rfl) rfl rfl rfl rfl rfl rfl rfl rfl rfl rfl rfl rfl) rfl ?_)
    (refine nx (a_call (gN rfl) rfl rfl rfl rfl rfl (hiv)) rfl ?_)
    (refine nx (a_not (gN rfl) rfl rfl rfl rfl rfl) rfl ?_)
    show AWp _ _ _ _ _ _ _
    refine aC rfl (fun hc => by cases hc) (fun hc => aK ?_)
    show AWp _ _ _ _ _ _ _
    refine aS (aR ?_)
    (refine nx (aM (gN rfl) rfl rfl rfl rfl rfl) rfl ?_)
    (refine nx (aNc (gN rfl) rfl rfl rfl rfl rfl) rfl ?_)
    (refine nx (aF (gN rfl) rfl rfl rfl rfl rfl rfl rfl rfl rfl) rfl ?_)
    (refine nx (aLf (gN rfl) rfl rfl rfl rfl rfl rfl rfl rfl rfl rfl rfl rfl rfl) rfl ?_)
    (refine nx (aM (gN rfl) rfl rfl rfl rfl rfl) rfl ?_)
    (refine nx (aM (gN rfl) rfl rfl rfl rfl rfl) rfl ?_)
    (refine nx (aIm (k := a) (gN rfl) rfl rfl rfl rfl rfl rfl rfl rfl rfl (by first | rfl | omega | (simp only [List.length_set, List.length_map, List.length_append, List.length_cons, List.length_nil] <;> omega) | (simp <;> omega))) rfl ?_)
    (refine nx (a_fieldM (gN rfl) rfl rfl rfl rfl rfl rfl rfl rfl rfl) rfl ?_)
    (refine nx (a_storeM (gN rfl) rfl rfl rfl rfl rfl rfl (hya') rfl rfl (by first | rfl | omega | (simp only [List.length_set, List.length_map, List.length_append, List.length_cons, List.length_nil] <;> omega) | (simp <;> omega)) rfl) rfl ?_)
    show AWp _ _ _ _ _ _ _
    refine AWp.wk (wk_sub (s' := cstM (c4.setUp a b)) ⟨rfl, ?_, rfl, rfl, ?_, rfl, rfl, trivial⟩) ?_
    · show _ = some (AV.sl 300001 0 (setUp c4.ns a b).length 5); rw [setUpLen]; rfl
    · show _ = some (AV.mrow 194 5 ((setUp c4.ns a b).map Nd.cv)); rw [map_setUp hya]; rfl
    refine aS (aR ?_)
    (refine nx (aA (gN rfl) rfl rfl rfl rfl rfl) rfl ?_)
    show AWp _ _ _ _ _ _ _
    exact aT ⟨.inr rfl, _, Wk.refl _, rfl, rfl, rfl, rfl, rfl, rfl, rfl, rfl, trivial⟩
  rw [show decide (xa.t.f < 0) = false by simpa using hv] at hiv
  rw [if_neg hv] at hj
  refine aS (aS (aR ?_))
  (refine nx (aL (gN rfl) rfl rfl rfl rfl rfl rfl rfl rfl rfl rfl rfl rfl) rfl ?_)
  (refine nx (a_call (gN rfl) rfl rfl rfl rfl rfl (hiv)) rfl ?_)
  (refine nx (a_not (gN rfl) rfl rfl rfl rfl rfl) rfl ?_)
  show AWp _ _ _ _ _ _ _
  refine aC rfl (fun hc => ?_) (fun hc => by cases hc)
  by_cases hft : xa.t.f = xb.t.f
  case neg =>
    have g : decide (xa.t.f ≠ xb.t.f) = true := by simpa using hft
    rw [if_pos (.inl hft)] at hj
    subst hj
    refine aS (aS (aR ?_))
    (refine nx (aF (gN rfl) rfl rfl rfl rfl rfl rfl rfl rfl rfl) rfl ?_)
    (refine nx (aLb (gN rfl) rfl rfl rfl rfl rfl rfl rfl rfl rfl rfl rfl rfl) rfl ?_)
    (refine nx (aF (gN rfl) rfl rfl rfl rfl rfl rfl rfl rfl rfl) rfl ?_)
    (refine nx (aLb (gN rfl) rfl rfl rfl rfl rfl rfl rfl rfl rfl rfl rfl rfl) rfl ?_)
    (refine nx (a_neq (gN rfl) rfl rfl rfl rfl rfl rfl) rfl ?_)
    (refine nx (aM (gN rfl) rfl rfl rfl rfl rfl) rfl ?_)
    (refine ⟨_, _, _, a_off (go_off rfl rfl rfl rfl (by first | rfl | assumption | (simp; done) | (simp [*]; done))) rfl rfl rfl, rfl, ?_⟩)
    (refine ⟨_, _, _, a_off (go_off rfl rfl rfl rfl (by first | rfl | assumption | (simp; done) | (simp [*]; done))) rfl rfl rfl, rfl, ?_⟩)
    (refine ⟨_, _, _, a_off (go_off rfl rfl rfl rfl (by first | rfl | assumption | (simp; done) | (simp [*]; done))) rfl rfl rfl, rfl, ?_⟩)
    (refine ⟨_, _, _, a_off (go_off rfl rfl rfl rfl (by first | rfl | assumption | (simp; done) | (simp [*]; done))) rfl rfl rfl, rfl, ?_⟩)
    (refine ⟨_, _, _, a_off (go_off rfl rfl rfl rfl (by first | rfl | assumption | (simp; done) | (simp [*]; done))) rfl rfl rfl, rfl, ?_⟩)
    (refine ⟨_, _, _, a_off (go_off rfl rfl rfl rfl (by first | rfl | assumption | (simp; done) | (simp [*]; done))) rfl rfl rfl, rfl, ?_⟩)
    (refine ⟨_, _, _, a_off (go_off rfl rfl rfl rfl (by first | rfl | assumption | (simp; done) | (simp [*]; done))) rfl rfl rfl, rfl, ?_⟩)
    (refine ⟨_, _, _, aPt (gN rfl) rfl rfl rfl rfl rfl ?hb rfl, rfl, ?_⟩; case hb => (first | rfl | assumption | (simp; done)))
    show AWp _ _ _ _ _ _ _
    refine aC rfl (fun hc => ?_) (fun hc => by cases hc)
    refine aS (aR ?_)
    (refine nx (aA (gN rfl) rfl rfl rfl rfl rfl) rfl ?_)
    show AWp _ _ _ _ _ _ _
    exact aT ⟨.inr rfl, _, Wk.refl _, rfl, rfl, rfl, rfl, rfl, rfl, rfl, rfl, trivial⟩
  have g : decide (xa.t.f ≠ xb.t.f) = false := by simpa using hft
  refine aS (aS (aR ?_))
  (refine nx (aF (gN rfl) rfl rfl rfl rfl rfl rfl rfl rfl rfl) rfl ?_)
  (refine nx (aLb (gN rfl) rfl rfl rfl rfl rfl rfl rfl rfl rfl rfl rfl rfl) rfl ?_)
  (refine nx (aF (gN rfl) rfl rfl rfl rfl rfl rfl rfl rfl rfl) rfl ?_)
  (refine nx (aLb (gN rfl) rfl rfl rfl rfl rfl rfl rfl rfl rfl rfl rfl rfl) rfl ?_)
  (refine nx (a_neq (gN rfl) rfl rfl rfl rfl rfl rfl) rfl ?_)
  (refine nx (aM (gN rfl) rfl rfl rfl rfl rfl) rfl ?_)
  (refine nx (aF (gd_on rfl rfl rfl rfl (by first | rfl | assumption | (simp; done))) rfl rfl rfl rfl rfl rfl rfl rfl rfl) rfl ?_)
  (refine nx (aLb (gd_on rfl rfl rfl rfl (by first | rfl | assumption | (simp; done))) rfl rfl rfl rfl rfl rfl rfl rfl rfl rfl rfl rfl) rfl ?_)
  (refine nx (a_len (gd_on rfl rfl rfl rfl (by first | rfl | assumption | (simp; done))) rfl rfl rfl rfl rfl rfl rfl) rfl ?_)
  (refine nx (aF (gd_on rfl rfl rfl rfl (by first | rfl | assumption | (simp; done))) rfl rfl rfl rfl rfl rfl rfl rfl rfl) rfl ?_)
  (refine nx (aLb (gd_on rfl rfl rfl rfl (by first | rfl | assumption | (simp; done))) rfl rfl rfl rfl rfl rfl rfl rfl rfl rfl rfl rfl) rfl ?_)
  (refine nx (a_len (gd_on rfl rfl rfl rfl (by first | rfl | assumption | (simp; done))) rfl rfl rfl rfl rfl rfl rfl) rfl ?_)
  (refine nx (a_neq (gd_on rfl rfl rfl rfl (by first | rfl | assumption | (simp; done))) rfl rfl rfl rfl rfl rfl) rfl ?_)
  (refine ⟨_, _, _, aPf (gN rfl) rfl rfl rfl rfl rfl ?hb rfl, rfl, ?_⟩; case hb => (first | rfl | assumption | (simp; done)))
  show AWp _ _ _ _ _ _ _
  by_cases hll : xa.t.l.length = xb.t.l.length
  case neg =>
    rw [if_pos (.inr hll)] at hj
    subst hj
    refine aC rfl (fun hc => ?_) (fun hc => ?_)
    case refine_2 =>
      have hc := of_decide_eq_false hc
      simp only [List.length_map, ne_eq, Decidable.not_not] at hc
      omega
    refine aS (aR ?_)
    (refine nx (aA (gN rfl) rfl rfl rfl rfl rfl) rfl ?_)
    show AWp _ _ _ _ _ _ _
    exact aT ⟨.inr rfl, _, Wk.refl _, rfl, rfl, rfl, rfl, rfl, rfl, rfl, rfl, trivial⟩
  rw [if_neg (by omega)] at hj
  subst hj
  refine aC rfl (fun hc => ?_) (fun hc => aK ?_)
  · exfalso
    rw [List.length_map, List.length_map, hll] at hc
    simp at hc
  show AWp _ _ _ _ _ _ _
  refine AWp.wk (wk_sub (s' := (0, AV.bp 350001 0 []) :: (1, .val (.i (a : Int))) :: (2, .val (.i (b : Int))) :: cstM c3) ⟨rfl, rfl, rfl, rfl, rfl, rfl, rfl, rfl, rfl, rfl, trivial⟩) ?_
  have hp3 : pw c3.ns ≤ 1000000 := by rw [pw_same hl3 ht3 hk3]; exact hF.big
  have hF3 : Fit c3 := ⟨by rw [hn3]; exact u2, fun n hn hk i hi => by rw [hl3] at hn ⊢; rw [hk3] at hk ⊢; rw [ht3] at hi; exact hF.kid n hn hk i hi, hT3, hp3⟩
  have g1 := hF3.kid.parts hal
  have hb4 : b < (pC c3 a).1.ns.length := Nat.lt_of_lt_of_le hbl parts_len
  have hl4 : (pC c3 a).1.ns.length ≤ 1000000 := Nat.le_trans (len_pw _) (by rw [pw_parts]; exact hp3)
  have hpc : c3.ps = c.ps := by rw [hc3]
  have hpp := uPushParts_abs c3 a b hal hbl hT3 hp3 (by rw [hpc]; exact hps) (hF3.kid.fi hal (by omega)) (kidOk.fi g1 hb4 hl4) hb4 (Nat.le_trans (snd_le hF3.kid hal) hl4) (fst_le hF3.kid hal (by omega)) (fst_le g1 hb4 hl4)
  refine aR ?_
  (refine nx (aM (gN rfl) rfl rfl rfl rfl rfl) rfl ?_)
  (refine nx (aM (gN rfl) rfl rfl rfl rfl rfl) rfl ?_)
  (refine nx (aM (gN rfl) rfl rfl rfl rfl rfl) rfl ?_)
  (refine nx (a_callO (gN rfl) rfl rfl rfl rfl rfl (hpp) (by repeat (first | exact trivial | refine ⟨rfl, ?_⟩)) (by first | rfl | kernel_rfl) (by first | rfl | kernel_rfl) (by first | rfl | kernel_rfl) (by first | rfl | kernel_rfl) (hnb_of (by first | rfl | kernel_rfl))) rfl ?_)
  show AWp _ _ _ _ _ _ _
  obtain ⟨c4, hc4⟩ : ∃ c4, c4 = pushP c3 a b := ⟨_, rfl⟩
  rw [← hc4]
  have hlen4 : c3.ns.length ≤ c4.ns.length := by rw [hc4]; exact Nat.le_trans parts_len parts_len
  obtain ⟨ya, hya⟩ := nd_at (ns := c4.ns) (n := a) (by omega)
  have hya' := Nd.map_at hya
  have hlm4 : (c4.ns.map Nd.cv).length = c4.ns.length := List.length_map ..
  refine aS (aR ?_)
  (refine nx (aM (gN rfl) rfl rfl rfl rfl rfl) rfl ?_)
  (refine nx (aNc (gN rfl) rfl rfl rfl rfl rfl) rfl ?_)
  (refine nx (aF (gN rfl) rfl rfl rfl rfl rfl rfl rfl rfl rfl) rfl ?_)
  (refine nx (aLf (gN rfl) rfl rfl rfl rfl rfl rfl rfl rfl rfl rfl rfl rfl rfl) rfl ?_)
  (refine nx (aM (gN rfl) rfl rfl rfl rfl rfl) rfl ?_)
  (refine nx (aM (gN rfl) rfl rfl rfl rfl rfl) rfl ?_)
  (refine nx (aIm (k := a) (gN rfl) rfl rfl rfl rfl rfl rfl rfl rfl rfl (by first | rfl | omega | (simp only [List.length_set, List.length_map, List.length_append, List.length_cons, List.length_nil] <;> omega) | (simp <;> omega))) rfl ?_)
  (refine nx (a_fieldM (gN rfl) rfl rfl rfl rfl rfl rfl rfl rfl rfl) rfl ?_)
  (refine nx (a_storeM (gN rfl) rfl rfl rfl rfl rfl rfl (hya') rfl rfl (by first | rfl | omega | (simp only [List.length_set, List.length_map, List.length_append, List.length_cons, List.length_nil] <;> omega) | (simp <;> omega)) rfl) rfl ?_)
  show AWp _ _ _ _ _ _ _
  refine AWp.wk (wk_sub (s' := cstM (c4.setUp a b)) ⟨rfl, ?_, rfl, rfl, ?_, rfl, rfl, trivial⟩) ?_
  · show _ = some (AV.sl 300001 0 (setUp c4.ns a b).length 5); rw [setUpLen]; rfl
  · show _ = some (AV.mrow 194 5 ((setUp c4.ns a b).map Nd.cv)); rw [map_setUp hya]; rfl
  refine aS (aR ?_)
  (refine nx (aA (gN rfl) rfl rfl rfl rfl rfl) rfl ?_)
  show AWp _ _ _ _ _ _ _
  exact aT ⟨.inr rfl, _, Wk.refl _, rfl, rfl, rfl, rfl, rfl, rfl, rfl, rfl, trivial⟩
theorem newClasses_any (w : World) :
    Calls Tryz.prog 121 #[] w fun e w' => e = .returned (.pointer (some ⟨w.heap.size + 1, 0, none⟩)) ∧ w' = (w.alloc (.map #[] 0)).alloc (.cells #[.slice none 0 0, .map (some w.heap.size), .slice none 0 0] 188) := by
  go_enter Tryz.func121, Tryz.ntmps121
  go_wp2
  rw [show (Instr.makeMap 123 none).run Tryz.prog w = .ok (.map (some w.heap.size)) (w.alloc (.map #[] 0)) by simp [Instr.makeMap, run_newObj_alloc]]
  simp only [Result.andThen]
  rw [Oper.upon_value]
  go_wp2
  go_ret
  have hsz : (w.alloc (.map #[] 0)).heap.size = w.heap.size + 1 := by simp
  exact ⟨by rw [← hsz]; rfl, rfl⟩
theorem look_c0 {k : Nat} {av : AV} (h : look (cstM ⟨[], [], []⟩) k = some av) : (k = 450001 ∧ av = .obj) ∨ (k = 35500100 ∧ av = .sl 300001 0 0 5) ∨ (k = 35500101 ∧ av = .mref 300003) ∨ (k = 35500102 ∧ av = .sl 300002 0 0 2) ∨ (k = 300001 ∧ av = .mrow 194 5 []) ∨ (k = 300003 ∧ av = .mp []) ∨ (k = 300002 ∧ av = .mrow 207 2 []) := by
  rw [look_cons] at h
  split at h
  · rename_i e; cases h; exact .inl ⟨e.symm, rfl⟩
  rw [look_cons] at h
  split at h
  · rename_i e; cases h; exact .inr (.inl ⟨e.symm, rfl⟩)
  rw [look_cons] at h
  split at h
  · rename_i e; cases h; exact .inr (.inr (.inl ⟨e.symm, rfl⟩))
  rw [look_cons] at h
  split at h
  · rename_i e; cases h; exact .inr (.inr (.inr (.inl ⟨e.symm, rfl⟩)))
  rw [look_cons] at h
  split at h
  · rename_i e; cases h; exact .inr (.inr (.inr (.inr (.inl ⟨e.symm, rfl⟩))))
  rw [look_cons] at h
  split at h
  · rename_i e; cases h; exact .inr (.inr (.inr (.inr (.inr (.inl ⟨e.symm, rfl⟩)))))
  rw [look_cons] at h
  split at h
  · rename_i e; cases h; exact .inr (.inr (.inr (.inr (.inr (.inr ⟨e.symm, rfl⟩)))))
  · cases h
theorem newC_abs : AFunO Tryz.prog 121 [] [] (.bp 350001 0 []) (cstM ⟨[], [], []⟩) := by
  refine ⟨ent_of Tryz.func121 rfl rfl, fun U w hv a0 vs hU hpS hargs => ?_⟩
  have hvs : vs = [] := hargs
  subst hvs
  refine (newClasses_any w).mono ?_
  rintro e w' ⟨rfl, hw'⟩
  have hB : Below w.heap.size w w' := by rw [hw']; exact ((Below.refl _ _).alloc (Nat.le_refl _) _).alloc (by simp) _
  have hs1 : (w.alloc (.map #[] 0)).heap.size = w.heap.size + 1 := by simp
  have hnew : w'.heap[w.heap.size + 1]? = some (.cells #[.slice none 0 0, .map (some w.heap.size), .slice none 0 0] 188 (0, 0)) := by rw [hw', ← hs1]; exact alloc_new _ _
  have hmap : w'.heap[w.heap.size]? = some (.map #[] 0) := by
    rw [hw', Below.heap_alloc _ _ _ (by rw [hs1]; omega)]
    exact alloc_new _ _
  have hlt : w.heap.size + 1 < w'.heap.size := by
    rcases Nat.lt_or_ge (w.heap.size + 1) w'.heap.size with h | h
    · exact h
    · rw [Array.getElem?_eq_none h] at hnew; cases hnew
  have hcell : ∀ i, i < 3 → w'.cell? ⟨w.heap.size + 1, i, none⟩ = (#[.slice none 0 0, .map (some w.heap.size), .slice none 0 0] : Array Value)[i]? := fun i hi => by
    simp only [World.cell?, hnew]
    simp
  obtain ⟨hv', hhv⟩ : ∃ hv' : Nat → Value, hv' = fun k => if k = 450001 then .pointer (some ⟨w.heap.size + 1, 0, none⟩) else if k = 300003 then .map (some w.heap.size) else .slice none 0 0 := ⟨_, rfl⟩
  have hv1 : hv' 450001 = .pointer (some ⟨w.heap.size + 1, 0, none⟩) := by rw [hhv]; simp
  have hv3 : hv' 300003 = .map (some w.heap.size) := by rw [hhv]; simp
  have hv4 : hv' 300001 = .slice none 0 0 := by rw [hhv]; simp
  have hv5 : hv' 300002 = .slice none 0 0 := by rw [hhv]; simp
  refine ⟨_, fun _ _ => False, hv', ⟨#[], []⟩, rfl, ⟨⟨hB.os, hB.tape, hB.output, hB.size, fun k hk _ => hB.block k hk⟩, rfl, rfl, fun d av g1 g2 => ?_, fun m o av g1 g2 g3 g4 => ?_, fun m o o' av av' g1 g2 g3 g4 g5 => ?_, fun k av g1 g2 => ?_, fun k av g g1 g2 g3 g4 => ?_, fun k k' av av' g g1 g2 g3 g4 g5 g6 g7 g8 g9 => ?_, fun k v hk => ?_, fun b o hd => hd.elim⟩, ?_⟩
  · rcases look_c0 g1 with ⟨e, _⟩ | ⟨e, _⟩ | ⟨e, _⟩ | ⟨e, _⟩ | ⟨e, _⟩ | ⟨e, _⟩ | ⟨e, _⟩ <;> omega
  · have hm : m = 350001 := by
      unfold BN at g4
      rcases look_c0 g3 with ⟨e, _⟩ | ⟨e, e2⟩ | ⟨e, e2⟩ | ⟨e, e2⟩ | ⟨e, e2⟩ | ⟨e, e2⟩ | ⟨e, e2⟩
      · omega
      all_goals cases e2
    subst hm
    have hbk : blkOf (hv' (100000 + 350001)) = w.heap.size + 1 := by rw [show 100000 + 350001 = 450001 from rfl, hv1]; rfl
    rw [hbk]
    rcases look_c0 g1 with ⟨e, _⟩ | ⟨e, rfl⟩ | ⟨e, rfl⟩ | ⟨e, rfl⟩ | ⟨e, _⟩ | ⟨e, _⟩ | ⟨e, _⟩
    · unfold fKey at e; omega
    · have ho : o = 0 := by unfold fKey at e; omega
      subst ho
      refine ⟨.slice none 0 0, ⟨⟨by decide, by decide⟩, ?_⟩, rfl, fun i hi => ?_⟩
      · show SlV (hv' 300001) 0 0 5 _
        rw [hv4]; exact slV_all rfl (Nat.le_refl _) (.inl rfl)
      · have hi : i < 1 := hi
        obtain rfl : i = 0 := by omega
        rw [hcell _ (by omega)]; rfl
    · have ho : o = 1 := by unfold fKey at e; omega
      subst ho
      refine ⟨.map (some w.heap.size), ⟨⟨by decide, by decide⟩, hv3.symm, rfl⟩, rfl, fun i hi => ?_⟩
      have hi : i < 1 := hi
      obtain rfl : i = 0 := by omega
      rw [hcell _ (by omega)]; rfl
    · have ho : o = 2 := by unfold fKey at e; omega
      subst ho
      refine ⟨.slice none 0 0, ⟨⟨by decide, by decide⟩, ?_⟩, rfl, fun i hi => ?_⟩
      · show SlV (hv' 300002) 0 0 2 _
        rw [hv5]; exact slV_all rfl (Nat.le_refl _) (.inl rfl)
      · have hi : i < 1 := hi
        obtain rfl : i = 0 := by omega
        rw [hcell _ (by omega)]; rfl
    · unfold fKey at e; omega
    · unfold fKey at e; omega
    · unfold fKey at e; omega
  · rcases look_c0 g1 with ⟨e, _⟩ | ⟨e, rfl⟩ | ⟨e, rfl⟩ | ⟨e, rfl⟩ | ⟨e, _⟩ | ⟨e, _⟩ | ⟨e, _⟩
    · unfold fKey at e; omega
    · show o + 1 ≤ o'; omega
    · show o + 1 ≤ o'; omega
    · show o + 1 ≤ o'; omega
    · unfold fKey at e; omega
    · unfold fKey at e; omega
    · unfold fKey at e; omega
  · unfold oKey at g2
    rcases look_c0 g1 with ⟨rfl, rfl⟩ | ⟨e, _⟩ | ⟨e, _⟩ | ⟨e, _⟩ | ⟨rfl, rfl⟩ | ⟨rfl, rfl⟩ | ⟨rfl, rfl⟩
    · exact ⟨w.heap.size + 1, _, _, hv1, hnew⟩
    · omega
    · omega
    · omega
    · rw [hv4]
      exact ⟨[], World.ownsRow_nil _ _ _ _, by decide, (fun c hc => by cases hc), rfl⟩
    · exact ⟨w.heap.size, #[], 0, hv3, hmap, rfl, (fun e he => by simp at he), by simp⟩
    · rw [hv5]
      exact ⟨[], World.ownsRow_nil _ _ _ _, by decide, (fun c hc => by cases hc), rfl⟩
  · unfold oKey at g2
    rcases look_c0 g1 with ⟨rfl, rfl⟩ | ⟨e, _⟩ | ⟨e, _⟩ | ⟨e, _⟩ | ⟨rfl, rfl⟩ | ⟨rfl, rfl⟩ | ⟨rfl, rfl⟩
    · rw [hv1] at g4
      have g4 : some (w.heap.size + 1) = some g := g4
      cases g4
      exact ⟨.inl (by omega), hlt, fun o _ h => h⟩
    · omega
    · omega
    · omega
    · rw [hv4] at g4; cases g4
    · rw [hv3] at g4
      have g4 : some w.heap.size = some g := g4
      cases g4
      exact ⟨.inl (Nat.le_refl _), by omega, fun o _ h => h⟩
    · rw [hv5] at g4; cases g4
  · unfold oKey at g3 g4
    have hk : ∀ {k av}, look (cstM ⟨[], [], []⟩) k = some av → 100000 ≤ k ∧ k < 500000 → (k = 450001 ∧ hb (hv' k) = some (w.heap.size + 1)) ∨ (k = 300003 ∧ hb (hv' k) = some w.heap.size) ∨ hb (hv' k) = none := fun {k av} f1 f2 => by
      rcases look_c0 f1 with ⟨rfl, rfl⟩ | ⟨e, _⟩ | ⟨e, _⟩ | ⟨e, _⟩ | ⟨rfl, rfl⟩ | ⟨rfl, rfl⟩ | ⟨rfl, rfl⟩
      · exact .inl ⟨rfl, by rw [hv1]; rfl⟩
      · omega
      · omega
      · omega
      · right; right; rw [hv4]; rfl
      · right; left; exact ⟨rfl, by rw [hv3]; rfl⟩
      · right; right; rw [hv5]; rfl
    rcases hk g1 g3 with ⟨e1, e2⟩ | ⟨e1, e2⟩ | e1
    · rcases hk g2 g4 with ⟨e3, e4⟩ | ⟨e3, e4⟩ | e3
      · omega
      · rw [e2] at g8; rw [e4] at g9; cases g8; injection g9 with g9; omega
      · rw [e3] at g9; cases g9
    · rcases hk g2 g4 with ⟨e3, e4⟩ | ⟨e3, e4⟩ | e3
      · rw [e2] at g8; rw [e4] at g9; cases g8; injection g9 with g9; omega
      · omega
      · rw [e3] at g9; cases g9
    · rw [e1] at g8; cases g8
  · have := hU k v hk; cases this
  · refine ⟨.inr ⟨by decide, by decide⟩, ?_⟩
    show _ = Value.pointer (some ⟨blkOf (hv' (100000 + 350001)), 0, none⟩)
    rw [show 100000 + 350001 = 450001 from rfl, hv1]; rfl
theorem sumTo_ge {f : Nat → Nat} : ∀ {N m : Nat}, m < N → f m ≤ sumTo f N
  | 0, m, h => by omega
  | N + 1, m, h => by
    rw [sumTo]
    rcases Nat.lt_or_ge m N with h1 | h1
    · have := sumTo_ge (f := f) h1; omega
    · have : m = N := by omega
      rw [this]; omega
theorem sumTo_le {f : Nat → Nat} {B : Nat} : ∀ {N : Nat}, (∀ m, m < N → f m ≤ B) → sumTo f N ≤ N * B
  | 0, _ => by simp [sumTo]
  | N + 1, h => by
    rw [sumTo]
    have h1 := sumTo_le (N := N) fun m hm => h m (by omega)
    have h2 := h N (by omega)
    rw [Nat.add_mul]
    omega
theorem mea_le {c : Cl} {H : Nat → Nat} (hk : kidOk c.ns) (hp : pw c.ns ≤ 1000) : mea c H ≤ c.ps.length + 2000000 := by
  have hN : c.ns.length ≤ 1000 := Nat.le_trans (len_pw _) hp
  have h1 : sumTo (hw c.ns H) c.ns.length ≤ c.ns.length * 2000 := sumTo_le fun m hm => by
    unfold hw wgt
    split
    · split
      · rename_i h0
        rcases Nat.eq_zero_or_pos (nT c.ns m).l.length with h2 | h2
        · omega
        · have := hk m hm h0 ((nT c.ns m).l.length - 1) (by omega)
          omega
      · rename_i h0
        have h3 := sumTo_ge (f := gw c.ns 0) hm
        rw [gw0, if_pos (by omega)] at h3
        have : sumTo (gw c.ns 0) c.ns.length = pw c.ns := rfl
        omega
    · omega
  have h2 : c.ns.length * 2000 ≤ 1000 * 2000 := Nat.mul_le_mul_right _ hN
  unfold mea
  omega
theorem trmOk.joinTo {c : Cl} (h : trmOk c.ns) {a b : Nat} (ha : a < c.ns.length) (hb : b < c.ns.length) : trmOk (joinTo c a b).1.ns := by
  unfold Go.Proofs.YteegmcfobgpemaaGreat.joinTo
  split
  · exact h.same (setUpLen _ _ _) fun m => tk_up.1 m
  · split
    · exact h
    · refine trmOk.same ?_ (setUpLen _ _ _) fun m => tk_up.1 m
      exact (h.parts ha).parts (Nat.lt_of_lt_of_le hb parts_len)
theorem trmOk.join {k : Nat} {c : Cl} {x y : Nat} {q : Cl × Bool} (h : trmOk c.ns) (hu : upOk c.ns) (hx : x < c.ns.length) (hy : y < c.ns.length) (hj : joinC k c x y = some q) : trmOk q.1.ns := by
  unfold joinC at hj
  cases h1 : headC k c.ns x with
  | none => rw [h1] at hj; cases hj
  | some q1 =>
  rw [h1] at hj
  simp only at hj
  cases h2 : headC k q1.1 y with
  | none => rw [h2] at hj; cases hj
  | some q2 =>
  rw [h2] at hj
  simp only at hj
  obtain ⟨u1, l1, x1, t1, k1⟩ := headC_keep k h1 hu hx
  obtain ⟨u2, l2, y2, t2, k2⟩ := headC_keep k h2 u1 (by rw [l1]; exact hy)
  have hT : trmOk q2.1 := h.same (by omega) fun m => by rw [t2, t1]
  split at hj
  · cases hj; exact hT
  · split at hj
    · cases hj
      exact trmOk.joinTo (c := ⟨q2.1, c.vr, c.ps⟩) hT (by show q2.2 < q2.1.length; omega) (by show q1.2 < q2.1.length; omega)
    · cases hj
      exact trmOk.joinTo (c := ⟨q2.1, c.vr, c.ps⟩) hT (by show q1.2 < q2.1.length; omega) (by show q2.2 < q2.1.length; omega)
structure Inv (c : Cl) (E : List (Tm × Tm)) (M : Nat) : Prop where
  cls : ∃ H r, ClsC c H r E ∧ mea c H ≤ M
  trm : trmOk c.ns
  big : pw c.ns ≤ 1000
theorem Inv.fit {c : Cl} {E} {M : Nat} (h : Inv c E M) : Fit c := by
  obtain ⟨H, r, h1, _⟩ := h.cls
  exact ⟨h1.ups, fun n hn hk i hi => ((h1.kid n hn hk).2 i hi).1, h.trm, by have := h.big; omega⟩
theorem Inv.ps {c : Cl} {E} {M : Nat} (h : Inv c E M) : c.ps.length ≤ M := by
  obtain ⟨H, r, _, h2⟩ := h.cls
  unfold mea at h2
  omega
theorem joinC_one {k k' : Nat} {c : Cl} {x y : Nat} {q q'} (h : joinC k c x y = some q) (h' : joinC k' c x y = some q') : q = q' := by
  have h1 := joinC_le (Nat.le_max_left k k') h
  have h2 := joinC_le (Nat.le_max_right k k') h'
  rw [h1] at h2
  exact Option.some.inj h2
theorem Inv.join {c : Cl} {E} {M k : Nat} {p : Nat × Nat} {q : Cl × Bool} (h : Inv c E M) (hp : c.ps.getLast? = some p) (hj : joinC k ⟨c.ns, c.vr, c.ps.dropLast⟩ p.1 p.2 = some q) : (p.1 < c.ns.length ∧ p.2 < c.ns.length) ∧ (q.2 = true → Inv q.1 E M) := by
  obtain ⟨H, r, h1, h2⟩ := h.cls
  have hps : c.ps = c.ps.dropLast ++ [p] := by
    have hne : c.ps ≠ [] := fun e => by rw [e] at hp; cases hp
    have h8 : c.ps.getLast hne = p := by
      have := List.getLast?_eq_some_getLast hne
      rw [hp] at this
      exact (Option.some.inj this).symm
    rw [← h8, List.dropLast_concat_getLast hne]
  have hc : c = ⟨c.ns, c.vr, c.ps.dropLast ++ [(p.1, p.2)]⟩ := by
    conv => lhs; rw [show c = ⟨c.ns, c.vr, c.ps⟩ from rfl, hps]
  have hpm : p ∈ c.ps := by rw [hps]; simp
  have hlt := h1.pss p hpm
  refine ⟨hlt, fun hq => ?_⟩
  rw [hc] at h1
  obtain ⟨k', q', e1, l1, l2⟩ := joinC_spec h1
  have := joinC_one hj e1
  subst this
  obtain ⟨H', r', g1, g2⟩ := l2 hq
  rw [← hc] at g2
  refine ⟨⟨H', r', g1, by omega⟩, ?_, ?_⟩
  · exact trmOk.join (c := ⟨c.ns, c.vr, c.ps.dropLast⟩) h.trm h.fit.up hlt.1 hlt.2 hj
  · rw [pw_join hj]; exact h.big
noncomputable abbrev prw (p : Tm × Tm) : CV := .row [p.1.cw, p.2.cw]
noncomputable def prv (p : Tm × Tm) : CV := prw p
theorem pr_at {l : List (Tm × Tm)} {i : Nat} {n : Tm × Tm} (h : l[i]? = some n) : (l.map prv)[i]? = some (prw n) := by rw [List.getElem?_map, h]; rfl
theorem pr_size (l : List (Tm × Tm)) : ∀ c ∈ l.map prv, c.size = 4 := by
  intro c hc
  obtain ⟨b, _, rfl⟩ := List.mem_map.1 hc
  rfl
theorem pw_open (c : Cl) (p : Tm × Tm) : pw (openC c p).ns = pw c.ns + p.1.size + p.2.size := by
  show pw (addC (addC c p.1) p.2).ns = _
  rw [pw_add, pw_add]
theorem Inv.opn {c : Cl} {E} {M : Nat} (h : Inv c E M) (hp : c.ps = []) {p : Tm × Tm} (h1 : p.1.rng ∧ p.1.ok) (h2 : p.2.rng ∧ p.2.ok) (hb : pw c.ns + p.1.size + p.2.size ≤ 1000) : Inv (openC c p) (E ++ [p]) 2000001 := by
  obtain ⟨H, r, g1, _⟩ := h.cls
  obtain ⟨H', r', g2⟩ := g1.openC p
  have hk : kidOk (openC c p).ns := fun n hn hk i hi => ((g2.kid n hn hk).2 i hi).1
  have hpw : pw (openC c p).ns ≤ 1000 := by rw [pw_open]; exact hb
  have hm := mea_le (H := H') hk hpw
  have hpl : (openC c p).ps.length = 1 := by
    show (c.ps ++ _).length = 1
    rw [hp]; rfl
  exact ⟨⟨H', r', g2, by omega⟩, (h.trm.add h1.1 h1.2).add h2.1 h2.2, hpw⟩
def plcS (l : List (Tm × Tm)) : Nat := (l.map fun p => p.1.size + p.2.size).sum
-- 
set_option maxHeartbeats 8000000 in
theorem uJoinAll_abs (k : Nat) (l : List (Tm × Tm)) (q : Cl × Bool) (hq : joinAllC k l ⟨[], [], []⟩ = some q) (hl : ∀ p ∈ l, (p.1.rng ∧ p.1.ok) ∧ (p.2.rng ∧ p.2.ok)) (hb : plcS l ≤ 1000) : AFunO Tryz.prog 122 (cstM ⟨[], [], []⟩) [.bp 350001 0 [], .val (.lst (l.map prv))] (.val (.b q.2)) (cstM q.1) := by
  have hsz := pr_size l
  have hll : l.length ≤ 1000 := by
    refine Nat.le_trans ?_ hb
    unfold plcS
    clear hq hl hb hsz
    induction l with
    | nil => simp
    | cons p l ih => simp only [List.map_cons, List.sum_cons, List.length_cons]; have := p.1.size_pos; omega
  refine afunO_of Tryz.func122 Tryz.ntmps122 rfl rfl rfl rfl rfl rfl ?_
  intro w U hU
  refine aS (aR ?_)
  (refine nx (aA (gN rfl) rfl rfl rfl rfl rfl) rfl ?_)
  show AWp _ _ _ _ _ _ _
  refine aS (aS (aR ?_))
  (refine nx (aM (gN rfl) rfl rfl rfl rfl rfl) rfl ?_)
  (refine nx (a_len (gN rfl) rfl rfl rfl rfl rfl rfl rfl) rfl ?_)
  (refine nx (aM (gN rfl) rfl rfl rfl rfl rfl) rfl ?_)
  show AWp _ _ _ _ _ _ _
  refine aB (awp_loop (fun m s => ∃ i c E, m = l.length - i ∧ i ≤ l.length ∧ joinAllC k (l.drop i) c = some q ∧ c.ps = [] ∧ Inv c E 2000001 ∧ pw c.ns + plcS (l.drop i) ≤ 1000 ∧ s = (0, AV.bp 350001 0 []) :: (7, .val (.lst (l.map prv))) :: (8, .val (.i (l.map prv).length)) :: (9, .val (.i (i : Int))) :: cstM c) (n := l.length) (s' := (0, AV.bp 350001 0 []) :: (7, .val (.lst (l.map prv))) :: (8, .val (.i (l.map prv).length)) :: (9, .val (.i ((0 : Nat) : Int))) :: cstM ⟨[], [], []⟩) (wk_sub ⟨rfl, rfl, rfl, rfl, rfl, rfl, rfl, rfl, rfl, rfl, rfl, trivial⟩) ⟨0, ⟨[], [], []⟩, [], by omega, by omega, hq, rfl, ⟨⟨id, id, Cls.nil, by show 0 + sumTo _ 0 ≤ _; simp [sumTo]⟩, (fun x hx => by cases hx), by show sumTo _ 0 ≤ _; simp [sumTo]⟩, by show sumTo _ 0 + _ ≤ _; simpa [sumTo] using hb, rfl⟩ ?_)
  rintro m s ⟨i, c, E, hm, hi, hq, hps, hI, hbi, rfl⟩
  refine aS (aR ?_)
  (refine nx (a_lss (gN rfl) rfl rfl rfl rfl rfl rfl) rfl ?_)
  show AWp _ _ _ _ _ _ _
  refine aS (aC rfl (fun hlt => ?_) (fun hlt => ?_))
  case refine_2 =>
    have hil : i = l.length := by
      have : ¬ i < l.length := by simpa using hlt
      omega
    rw [hil, List.drop_length] at hq
    cases hq
    refine aE ?_
    show AWp _ _ _ _ _ _ _
    refine aS (aR ?_)
    (refine nx (aA (gN rfl) rfl rfl rfl rfl rfl) rfl ?_)
    show AWp _ _ _ _ _ _ _
    exact aT ⟨.inr rfl, _, Wk.refl _, rfl, rfl, rfl, rfl, rfl, rfl, rfl, rfl, trivial⟩
  have hil : i < l.length := by simpa using hlt
  obtain ⟨p, hp⟩ : ∃ p, l[i]? = some p := ⟨l[i], List.getElem?_eq_getElem hil⟩
  have hp' := pr_at hp
  have hpm := List.mem_of_getElem? hp
  have hdr : l.drop i = p :: l.drop (i + 1) := by
    obtain ⟨hk, e⟩ := List.getElem?_eq_some_iff.1 hp
    rw [List.drop_eq_getElem_cons hk, e]
  rw [hdr, joinAllC] at hq
  rw [hdr] at hbi
  have hbi : pw c.ns + (p.1.size + p.2.size + plcS (l.drop (i + 1))) ≤ 1000 := hbi
  obtain ⟨⟨r1, o1⟩, r2, o2⟩ := hl p hpm
  have hl0 : c.ns.length ≤ 1000 := Nat.le_trans (len_pw _) (by omega)
  have a1 := uAdd_abs c p.1 r1 (by omega)
  have a2 := uAdd_abs (addC c p.1) p.2 r2 (by rw [addC_len]; omega)
  have a3 := uPush_abs (addC (addC c p.1) p.2) c.ns.length (c.ns.length + 1) (by show c.ps.length ≤ _; rw [hps]; decide)
  rw [addC_len] at a2
  have hop : (⟨(addC (addC c p.1) p.2).ns, (addC (addC c p.1) p.2).vr, (addC (addC c p.1) p.2).ps ++ [(c.ns.length, c.ns.length + 1)]⟩ : Cl) = openC c p := rfl
  rw [hop] at a3
  have hIo := hI.opn hps ⟨r1, o1⟩ ⟨r2, o2⟩ (by omega)
  refine aK ?_
  show AWp _ _ _ _ _ _ _
  refine aS (aB (aS (aR ?_)))
  (refine nx (a_index (j := i) (gN rfl) rfl rfl rfl rfl rfl rfl rfl rfl rfl (hp') rfl (hsz)) rfl ?_)
  (refine nx (a_load_ad (gN rfl) rfl rfl rfl rfl rfl rfl rfl rfl rfl) rfl ?_)
  (refine nx (a_allocA [2, 2] (gN rfl) rfl rfl rfl rfl rfl rfl rfl) (by kernel_rfl) ?_)
  (refine nx (aSt (gN rfl) rfl rfl rfl rfl rfl rfl rfl rfl rfl rfl) rfl ?_)
  show AWp _ _ _ _ _ _ _
  refine aS (aD (by kernel_rfl) (by kernel_rfl) ?_)
  (refine nx (aM (gN rfl) rfl rfl rfl rfl rfl) rfl ?_)
  (refine nx (aM (gN rfl) rfl rfl rfl rfl rfl) rfl ?_)
  (refine nx (a_idxA 0 (gN rfl) rfl rfl rfl rfl rfl rfl rfl rfl rfl rfl) rfl ?_)
  (refine nx (aLb (gN rfl) rfl rfl rfl rfl rfl rfl rfl rfl rfl rfl rfl rfl) rfl ?_)
  (refine nx (a_callO (gN rfl) rfl rfl rfl rfl rfl (a1) (by repeat (first | exact trivial | refine ⟨rfl, ?_⟩)) (by first | rfl | kernel_rfl) (by first | rfl | kernel_rfl) (by first | rfl | kernel_rfl) (by first | rfl | kernel_rfl) (hnb_of (by first | rfl | kernel_rfl))) rfl ?_)
  (refine nx (aM (gN rfl) rfl rfl rfl rfl rfl) rfl ?_)
  (refine nx (a_idxA 1 (gN rfl) rfl rfl rfl rfl rfl rfl rfl rfl rfl rfl) rfl ?_)
  (refine nx (aLb (gN rfl) rfl rfl rfl rfl rfl rfl rfl rfl rfl rfl rfl rfl) rfl ?_)
  (refine nx (a_callO (gN rfl) rfl rfl rfl rfl rfl (a2) (by repeat (first | exact trivial | refine ⟨rfl, ?_⟩)) (by first | rfl | kernel_rfl) (by first | rfl | kernel_rfl) (by first | rfl | kernel_rfl) (by first | rfl | kernel_rfl) (hnb_of (by first | rfl | kernel_rfl))) rfl ?_)
  (refine nx (a_callO (gN rfl) rfl rfl rfl rfl rfl (a3) (by repeat (first | exact trivial | refine ⟨rfl, ?_⟩)) (by first | rfl | kernel_rfl) (by first | rfl | kernel_rfl) (by first | rfl | kernel_rfl) (by first | rfl | kernel_rfl) (hnb_of (by first | rfl | kernel_rfl))) rfl ?_)
  refine ⟨by kernel_rfl, ?_⟩
  show AWp _ _ _ _ _ _ _
  cases hrun : runC k (openC c p) with
  | none => rw [hrun] at hq; cases hq
  | some qr =>
  rw [hrun] at hq
  simp only at hq
  refine aB (awp_loop (fun j s => ∃ d, runC j d = some qr ∧ Inv d (E ++ [p]) 2000001 ∧ pw d.ns = pw (openC c p).ns ∧ s = (0, AV.bp 350001 0 []) :: (7, .val (.lst (l.map prv))) :: (8, .val (.i (l.map prv).length)) :: (9, .val (.i (i : Int))) :: cstM d) (n := k) (s' := (0, AV.bp 350001 0 []) :: (7, .val (.lst (l.map prv))) :: (8, .val (.i (l.map prv).length)) :: (9, .val (.i (i : Int))) :: cstM (openC c p)) (wk_sub ⟨rfl, rfl, rfl, rfl, rfl, rfl, rfl, rfl, rfl, rfl, rfl, trivial⟩) ⟨openC c p, hrun, hIo, rfl, rfl⟩ ?_)
  rintro j s ⟨d, hd, hId, hpd, rfl⟩
  cases j with
  | zero => cases hd
  | succ j =>
  rw [runC] at hd
  have hdp := hId.ps
  refine aS (aS (aR ?_))
  (refine nx (aM (gN rfl) rfl rfl rfl rfl rfl) rfl ?_)
  (refine nx (aNc (gN rfl) rfl rfl rfl rfl rfl) rfl ?_)
  (refine nx (aF (gN rfl) rfl rfl rfl rfl rfl rfl rfl rfl rfl) rfl ?_)
  (refine nx (aLf (gN rfl) rfl rfl rfl rfl rfl rfl rfl rfl rfl rfl rfl rfl rfl) rfl ?_)
  (refine nx (a_lenM (gN rfl) rfl rfl rfl rfl rfl rfl rfl) rfl ?_)
  (refine nx (a_gtr (gN rfl) rfl rfl rfl rfl rfl rfl) rfl ?_)
  show AWp _ _ _ _ _ _ _
  cases hg : d.ps.getLast? with
  | none =>
    rw [hg] at hd
    simp only at hd
    cases hd
    have hdn : d.ps = [] := List.getLast?_eq_none_iff.1 hg
    refine aC rfl (fun hc => ?_) (fun hc => ?_)
    · exfalso
      rw [hdn] at hc
      simp at hc
    rw [if_pos rfl] at hq
    refine aE ?_
    show AWp _ _ _ _ _ _ _
    refine aR ?_
    (refine nx (a_add (gN rfl) rfl rfl rfl rfl rfl rfl (by first | omega | (simp only [List.length_map, List.length_append, List.length_cons, List.length_nil] <;> omega) | (simp <;> omega))) rfl ?_)
    (refine nx (aM (gN rfl) rfl rfl rfl rfl rfl) rfl ?_)
    have hpw : pw d.ns = pw c.ns + p.1.size + p.2.size := by rw [hpd, pw_open]
    refine ⟨l.length - (i + 1), (0, AV.bp 350001 0 []) :: (7, .val (.lst (l.map prv))) :: (8, .val (.i (l.map prv).length)) :: (9, .val (.i ((i + 1 : Nat) : Int))) :: cstM d, by omega, ⟨i + 1, d, E ++ [p], rfl, by omega, hq, hdn, hId, by omega, rfl⟩, wk_sub ⟨rfl, rfl, rfl, rfl, rfl, rfl, rfl, rfl, rfl, rfl, rfl, trivial⟩⟩
  | some pp =>
    rw [hg] at hd
    simp only at hd
    cases hj : joinC j ⟨d.ns, d.vr, d.ps.dropLast⟩ pp.1 pp.2 with
    | none => rw [hj] at hd; cases hd
    | some qj =>
    rw [hj] at hd
    simp only at hd
    obtain ⟨⟨x1, x2⟩, hInv⟩ := hId.join hg hj
    have hpos : 0 < d.ps.length := by
      cases h : d.ps with
      | nil => rw [h] at hg; cases hg
      | cons a l => simp
    have b1 := uPop_abs d pp hg (by omega)
    have hFd := hId.fit
    have b2 := uJoin_abs j ⟨d.ns, d.vr, d.ps.dropLast⟩ pp.1 pp.2 qj hj x1 x2 ⟨hFd.up, hFd.kid, hFd.trm, hFd.big⟩ (by show d.ps.dropLast.length ≤ _; rw [List.length_dropLast]; omega)
    refine aC rfl (fun hc => ?_) (fun hc => ?_)
    case refine_2 =>
      have : ¬ ((d.ps.length : Int) > 0) := by simpa using hc
      omega
    refine aK ?_
    show AWp _ _ _ _ _ _ _
    refine AWp.wk (wk_sub (s' := (0, AV.bp 350001 0 []) :: (7, .val (.lst (l.map prv))) :: (8, .val (.i (l.map prv).length)) :: (9, .val (.i (i : Int))) :: cstM d) ⟨rfl, rfl, rfl, rfl, rfl, rfl, rfl, rfl, rfl, rfl, rfl, trivial⟩) ?_
    refine aB (aS (aR ?_))
    (refine nx (aM (gN rfl) rfl rfl rfl rfl rfl) rfl ?_)
    (refine nx (aM (gN rfl) rfl rfl rfl rfl rfl) rfl ?_)
    (refine nx (a_callO (gN rfl) rfl rfl rfl rfl rfl (b1) (by repeat (first | exact trivial | refine ⟨rfl, ?_⟩)) (by first | rfl | kernel_rfl) (by first | rfl | kernel_rfl) (by first | rfl | kernel_rfl) (by first | rfl | kernel_rfl) (hnb_of (by first | rfl | kernel_rfl))) rfl ?_)
    (refine nx (aX (gN rfl) rfl rfl rfl rfl rfl rfl) rfl ?_)
    (refine nx (aX (gN rfl) rfl rfl rfl rfl rfl rfl) rfl ?_)
    (refine nx (a_callO (gN rfl) rfl rfl rfl rfl rfl (b2) (by repeat (first | exact trivial | refine ⟨rfl, ?_⟩)) (by first | rfl | kernel_rfl) (by first | rfl | kernel_rfl) (by first | rfl | kernel_rfl) (by first | rfl | kernel_rfl) (hnb_of (by first | rfl | kernel_rfl))) rfl ?_)
    (refine nx (a_not (gN rfl) rfl rfl rfl rfl rfl) rfl ?_)
    show AWp _ _ _ _ _ _ _
    cases hqj : qj.2 with
    | false =>
      rw [hqj, if_neg (by simp)] at hd
      have hd := Option.some.inj hd
      subst hd
      rw [hqj, if_neg (by simp)] at hq
      have hq := Option.some.inj hq
      subst hq
      refine aC rfl (fun hc => ?_) (fun hc => by cases hc)
      refine aS (aR ?_)
      (refine nx (aA (gN rfl) rfl rfl rfl rfl rfl) rfl ?_)
      show AWp _ _ _ _ _ _ _
      rw [hqj]
      exact aT ⟨.inr rfl, _, Wk.refl _, rfl, rfl, rfl, rfl, rfl, rfl, rfl, rfl, trivial⟩
    | true =>
      rw [hqj, if_pos rfl] at hd
      refine aC rfl (fun hc => by cases hc) (fun hc => aK ?_)
      exact ⟨j, _, by omega, ⟨qj.1, hd, hInv hqj, by rw [pw_join hj]; exact hpd, rfl⟩, wk_sub ⟨rfl, rfl, rfl, rfl, rfl, rfl, rfl, rfl, rfl, rfl, rfl, trivial⟩⟩
structure FitU (c : Cl) : Prop where
  up : upOk c.ns
  kid : kidOk c.ns
  trm : trmOk c.ns
  big : pw c.ns ≤ 1000
  vrb : ∀ v m, lookV c.vr v = some m → m < c.ns.length
theorem Inv.fitU {c : Cl} {E} {M : Nat} (h : Inv c E M) : FitU c := by
  have hf := h.fit
  obtain ⟨H, r, h1, _⟩ := h.cls
  exact ⟨hf.up, hf.kid, hf.trm, h.big, fun v m hm => (h1.vrt v m hm).1⟩
def upB (c : Cl) : Prop := upOk c.ns ∧ ∀ v m, lookV c.vr v = some m → m < c.ns.length
theorem upB.add {c : Cl} (h : upB c) (t : Tm) : upB (addC c t) := by
  have hl : (addC c t).ns.length = c.ns.length + 1 := addC_len c t
  have hu : addU c t ≤ c.ns.length := by
    unfold addU
    split
    · cases e : lookV c.vr (-1 - t.f) with
      | none => exact Nat.le_refl _
      | some m => exact Nat.le_of_lt (h.2 _ m e)
    · exact Nat.le_refl _
  refine ⟨fun m hm => ?_, fun v m hm => ?_⟩
  · rw [hl] at hm ⊢
    unfold nU addC
    rcases Nat.lt_or_ge m c.ns.length with h1 | h1
    · simp only
      rw [List.getD_eq_getElem?_getD, List.getElem?_append_left h1, ← List.getD_eq_getElem?_getD]
      have := h.1 m h1
      unfold nU at this
      omega
    · have : m = c.ns.length := by omega
      subst this
      simp only
      rw [getD_end]
      show addU c t < _
      omega
  · rw [hl]
    have hm : lookV (addV c t) v = some m := hm
    unfold addV at hm
    split at hm
    · split at hm
      · have := h.2 v m hm; omega
      · rw [lookV_snoc] at hm
        cases e : lookV c.vr v with
        | some m' => rw [e] at hm; cases hm; have := h.2 v _ e; omega
        | none =>
          rw [e, Option.none_or] at hm
          split at hm
          · cases hm; omega
          · cases hm
    · have := h.2 v m hm; omega
theorem upB.all (l : List Tm) : ∀ {c : Cl}, upB c → upB (addAll c l) := by
  induction l with
  | nil => exact fun h => h
  | cons t l ih => exact fun h => ih (h.add t)
theorem upB.parts {c : Cl} (h : upB c) (n : Nat) : upB (pC c n).1 := by
  unfold pC
  split
  · exact h
  · split
    · refine upB.all _ ⟨fun m hm => ?_, fun v m hm => ?_⟩
      · have hl : (c.setFi n c.ns.length).ns.length = c.ns.length := by unfold Cl.setFi setFi; simp
        rw [hl] at hm ⊢
        have hU : nU (c.setFi n c.ns.length).ns m = nU c.ns m := by
          unfold Cl.setFi setFi nU
          simp only
          rw [List.getD_eq_getElem?_getD, List.getElem?_set]
          split
          · rename_i e
            subst e
            split
            · rfl
            · rename_i h9; exact absurd hm h9
          · rw [← List.getD_eq_getElem?_getD]
        rw [hU]; exact h.1 m hm
      · have := h.2 v m hm
        show m < (setFi c.ns n c.ns.length).length
        unfold setFi
        rw [List.length_set]; exact this
    · exact h
theorem FitU.parts {c : Cl} (h : FitU c) {n : Nat} (hn : n < c.ns.length) : FitU (pC c n).1 := by
  obtain ⟨h1, h2⟩ := upB.parts ⟨h.up, h.vrb⟩ n
  exact ⟨h1, h.kid.parts hn, h.trm.parts hn, by rw [pw_parts]; exact h.big, h2⟩
theorem kidOk.same {ns ns' : List Nd} (h : kidOk ns) (hl : ns'.length = ns.length) (ht : ∀ m, nT ns' m = nT ns m) (hk : ∀ m, nK ns' m = nK ns m) : kidOk ns' := fun n hn hkn i hi => by
  rw [hl] at hn ⊢
  rw [hk] at hkn ⊢
  rw [ht] at hi
  exact h n hn hkn i hi
theorem FitU.head {k : Nat} {ns : List Nd} {vr ps} {n : Nat} {r} (h : FitU ⟨ns, vr, ps⟩) (hn : n < ns.length) (hd : headC k ns n = some r) : FitU ⟨r.1, vr, ps⟩ ∧ r.1.length = ns.length ∧ r.2 < ns.length := by
  obtain ⟨a1, a2, a3, a4, a5⟩ := headC_keep k hd h.up hn
  exact ⟨⟨a1, h.kid.same a2 a4 a5, h.trm.same a2 a4, by show pw r.1 ≤ 1000; rw [pw_same a2 a4 a5]; exact h.big, fun v m hm => by show m < r.1.length; rw [a2]; exact h.vrb v m hm⟩, a2, a3⟩
theorem nU_us {ns : List Nd} {n : Nat} {x : Int} (m : Nat) : nU (setUs ns n x) m = nU ns m := by
  unfold nU setUs
  rw [List.getD_eq_getElem?_getD, List.getElem?_set]
  split
  · rename_i e
    subst e
    split
    · rfl
    · rename_i h9
      rw [List.getD_eq_getElem?_getD, List.getElem?_eq_none (by omega)]
  · rw [← List.getD_eq_getElem?_getD]
theorem setUsLen (ns : List Nd) (n : Nat) (x : Int) : (setUs ns n x).length = ns.length := by unfold setUs; simp
theorem FitU.us {ns : List Nd} {vr ps} (h : FitU ⟨ns, vr, ps⟩) (n : Nat) (x : Int) : FitU ⟨setUs ns n x, vr, ps⟩ := by
  have hl := setUsLen ns n x
  exact ⟨fun m hm => by show nU (setUs ns n x) m < (setUs ns n x).length; rw [nU_us, hl]; exact h.up m (by have : m < (setUs ns n x).length := hm; rw [hl] at this; exact this), h.kid.same hl tk_us.1 tk_us.2, h.trm.same hl tk_us.1, by show pw (setUs ns n x) ≤ 1000; rw [pw_us]; exact h.big, fun v m hm => by show m < (setUs ns n x).length; rw [hl]; exact h.vrb v m hm⟩
def usB (ns : List Nd) (B : Int) : Prop := ∀ m, -B ≤ nS ns m ∧ nS ns m ≤ B
theorem nS_up9 {ns : List Nd} {n k : Nat} (m : Nat) : nS (setUp ns n k) m = nS ns m := by
  unfold nS setUp
  rw [List.getD_eq_getElem?_getD, List.getElem?_set]
  split
  · rename_i e
    subst e
    split
    · rfl
    · rename_i h9
      rw [List.getD_eq_getElem?_getD, List.getElem?_eq_none (by omega)]
  · rw [← List.getD_eq_getElem?_getD]
theorem headC_us : ∀ (k : Nat) {ns : List Nd} {n : Nat} {r}, headC k ns n = some r → ∀ m, nS r.1 m = nS ns m
  | 0, _, _, _, e => by cases e
  | k + 1, ns, n, r, e => fun m => by
    rw [headC] at e
    split at e
    · cases e; rfl
    · rw [headC_us k e m, nS_up9]
theorem usB.head {k : Nat} {ns : List Nd} {n : Nat} {r} {B : Int} (h : usB ns B) (hd : headC k ns n = some r) : usB r.1 B := fun m => by rw [headC_us k hd]; exact h m
theorem usB.set {ns : List Nd} {B : Int} (h : usB ns B) {n : Nat} {x : Int} (hx : -(B + 1) ≤ x ∧ x ≤ B + 1) : usB (setUs ns n x) (B + 1) := fun m => by
  have h1 := h m
  unfold nS setUs at *
  rw [List.getD_eq_getElem?_getD, List.getElem?_set]
  split
  · split
    · exact hx
    · show _ ≤ (0 : Int) ∧ (0 : Int) ≤ _; omega
  · rw [← List.getD_eq_getElem?_getD]; omega
theorem usB.mono {ns : List Nd} {B B' : Int} (h : usB ns B) (hb : B ≤ B') : usB ns B' := fun m => by have := h m; omega
theorem nS_addC {c : Cl} {t : Tm} {B : Int} (h : usB c.ns B) (hB : 0 ≤ B) : usB (addC c t).ns B := fun m => by
  unfold nS addC
  simp only
  rw [List.getD_eq_getElem?_getD]
  rcases Nat.lt_trichotomy m c.ns.length with h1 | h1 | h1
  · rw [List.getElem?_append_left h1, ← List.getD_eq_getElem?_getD]; exact h m
  · subst h1; rw [List.getElem?_append_right (Nat.le_refl _), Nat.sub_self]; show _ ≤ (0 : Int) ∧ (0 : Int) ≤ _; omega
  · rw [List.getElem?_eq_none (by simp; omega)]; show _ ≤ (0 : Int) ∧ (0 : Int) ≤ _; omega
theorem usB.parts {c : Cl} {B : Int} (h : usB c.ns B) (hB : 0 ≤ B) (n : Nat) : usB (pC c n).1.ns B := by
  have hall : ∀ (l : List Tm) (c : Cl), usB c.ns B → usB (addAll c l).ns B := by
    intro l
    induction l with
    | nil => exact fun c h => h
    | cons t l ih => exact fun c h => ih _ (nS_addC h hB)
  unfold pC
  split
  · exact h
  · split
    · refine hall _ _ fun m => ?_
      have : nS (c.setFi n c.ns.length).ns m = nS c.ns m := by
        unfold Cl.setFi setFi nS
        simp only
        rw [List.getD_eq_getElem?_getD, List.getElem?_set]
        split
        · rename_i e
          subst e
          split
          · rfl
          · rename_i h9
            rw [List.getD_eq_getElem?_getD, List.getElem?_eq_none (by omega)]
        · rw [← List.getD_eq_getElem?_getD]
      rw [this]; exact h m
    · exact h
theorem setUs_at {ns : List Nd} {n : Nat} {k : Int} {x : Nd} (h : ns[n]? = some x) : (setUs ns n k)[n]? = some { x with us := k } := by
  unfold setUs
  have hl : n < ns.length := (List.getElem?_eq_some_iff.1 h).1
  rw [List.getElem?_set_self hl, getD_at h]
noncomputable abbrev intsV (l : List Nat) : CV := .lst (l.map fun n : Nat => CV.i (n : Int))
theorem nats_size (l : List Nat) : ∀ c ∈ l.map (fun n : Nat => CV.i (n : Int)), c.size = 1 := fun c hc => by
  obtain ⟨n, _, rfl⟩ := List.mem_map.1 hc
  rfl
-- 
set_option maxHeartbeats 8000000 in
theorem uCount_abs (k j0 : Nat) (c0 : Cl) (q : Cl × List Nat) (hq : countC k j0 0 c0 [] = some q) (hF0 : FitU c0) (hu0 : usB c0.ns 0) : AFunO Tryz.prog 154 (cstM c0) [.bp 350001 0 []] (.val (intsV q.2)) (cstM q.1) := by
  refine afunO_of Tryz.func154 Tryz.ntmps154 rfl rfl rfl rfl rfl rfl ?_
  intro w U hU
  refine aS (aR ?_)
  (refine nx (aA (gN rfl) rfl rfl rfl rfl rfl) rfl ?_)
  show AWp _ _ _ _ _ _ _
  refine aS (aR ?_)
  (refine nx (aA (gN rfl) rfl rfl rfl rfl rfl) rfl ?_)
  show AWp _ _ _ _ _ _ _
  refine aS (aS (aR ?_))
  (refine nx (aA (gN rfl) rfl rfl rfl rfl rfl) rfl ?_)
  show AWp _ _ _ _ _ _ _
  refine aB (awp_loop (fun j s => ∃ n c hs, countC k j n c hs = some q ∧ FitU c ∧ usB c.ns ((n : Int) * 1000) ∧ n ≤ 1000 ∧ hs.length ≤ n ∧ s = (0, AV.bp 350001 0 []) :: (3, .own (intsV hs) 200025) :: (200025, .tok 3 1) :: (4, .val (.i (n : Int))) :: cstM c) (n := j0) (s' := (0, AV.bp 350001 0 []) :: (3, .own (intsV []) 200025) :: (200025, .tok 3 1) :: (4, .val (.i ((0 : Nat) : Int))) :: cstM c0) ((wk_nil 3 200025 3 1 rfl rfl rfl rfl rfl rfl (by kernel_rfl)).trans (wk_sub ⟨rfl, rfl, rfl, rfl, rfl, rfl, rfl, rfl, rfl, rfl, rfl, trivial⟩)) ⟨0, c0, [], hq, hF0, by simpa using hu0, by omega, Nat.le_refl _, rfl⟩ ?_)
  rintro j s ⟨n, c, hs, hq, hF, hu, hn, hsl, rfl⟩
  cases j with
  | zero => cases hq
  | succ j =>
  rw [countC] at hq
  have hl : c.ns.length ≤ 1000 := Nat.le_trans (len_pw _) hF.big
  refine aS (aS (aR ?_))
  (refine nx (aM (gN rfl) rfl rfl rfl rfl rfl) rfl ?_)
  (refine nx (aM (gN rfl) rfl rfl rfl rfl rfl) rfl ?_)
  (refine nx (aNc (gN rfl) rfl rfl rfl rfl rfl) rfl ?_)
  (refine nx (aF (gN rfl) rfl rfl rfl rfl rfl rfl rfl rfl rfl) rfl ?_)
  (refine nx (aLf (gN rfl) rfl rfl rfl rfl rfl rfl rfl rfl rfl rfl rfl rfl rfl) rfl ?_)
  (refine nx (a_lenM (gN rfl) rfl rfl rfl rfl rfl rfl rfl) rfl ?_)
  (refine nx (a_lss (gN rfl) rfl rfl rfl rfl rfl rfl) rfl ?_)
  show AWp _ _ _ _ _ _ _
  by_cases hlt : n < c.ns.length
  case neg =>
    rw [if_neg hlt] at hq
    have hq := Option.some.inj hq
    subst hq
    refine aC rfl (fun hc => ?_) (fun hc => ?_)
    · exfalso
      have : (n : Int) < c.ns.length := by simpa using hc
      omega
    refine aE ?_
    show AWp _ _ _ _ _ _ _
    refine aS (aR ?_)
    (refine nx (aM (gN rfl) rfl rfl rfl rfl rfl) rfl ?_)
    (refine nx (aA (gN rfl) rfl rfl rfl rfl rfl) rfl ?_)
    show AWp _ _ _ _ _ _ _
    exact aT ⟨.inr rfl, _, Wk.refl _, rfl, rfl, rfl, rfl, rfl, rfl, rfl, rfl, trivial⟩
  rw [if_pos hlt] at hq
  refine aC rfl (fun hc => ?_) (fun hc => ?_)
  case refine_2 =>
    have : ¬ (n : Int) < c.ns.length := by simpa using hc
    omega
  refine aK ?_
  show AWp _ _ _ _ _ _ _
  cases hd : headC k c.ns n with
  | none => rw [hd] at hq; cases hq
  | some r =>
  rw [hd] at hq
  simp only at hq
  have hdc := uHead_abs c.vr c.ps k c.ns n r hd hF.up hlt (by omega)
  obtain ⟨hF1, hl1, hr1⟩ := FitU.head (vr := c.vr) (ps := c.ps) hF hlt hd
  have hu1 := hu.head hd
  refine AWp.wk ((wk_sub (s' := (0, AV.bp 350001 0 []) :: (3, .own (intsV hs) 200025) :: (200025, .tok 3 1) :: (4, .val (.i (n : Int))) :: cstM c) ⟨rfl, rfl, rfl, rfl, rfl, rfl, rfl, rfl, rfl, rfl, rfl, trivial⟩).trans (wk_renF 300001 400001 rfl rfl (hUno hU (by kernel_rfl)) (by kernel_rfl) (by kernel_rfl) (by kernel_rfl))) ?_
  refine aS (aB (aS (aS (aR ?_))))
  (refine nx (aM (gN rfl) rfl rfl rfl rfl rfl) rfl ?_)
  (refine nx (aM (gN rfl) rfl rfl rfl rfl rfl) rfl ?_)
  (refine nx (a_callO (gN rfl) rfl rfl rfl rfl rfl (hdc) (by repeat (first | exact trivial | refine ⟨rfl, ?_⟩)) (by first | rfl | kernel_rfl) (by first | rfl | kernel_rfl) (by first | rfl | kernel_rfl) (by first | rfl | kernel_rfl) (hnb_of (by first | rfl | kernel_rfl))) rfl ?_)
  (refine nx (aM (gN rfl) rfl rfl rfl rfl rfl) rfl ?_)
  (refine nx (a_neq (gN rfl) rfl rfl rfl rfl rfl rfl) rfl ?_)
  show AWp _ _ _ _ _ _ _
  obtain ⟨c1, hc1⟩ : ∃ c1 : Cl, c1 = ⟨r.1, c.vr, c.ps⟩ := ⟨_, rfl⟩
  rw [← hc1] at hq hF1 ⊢
  have hl1' : c1.ns.length = c.ns.length := by rw [hc1]; exact hl1
  have hu1 : usB c1.ns ((n : Int) * 1000) := by rw [hc1]; exact hu1
  by_cases he : r.2 = n
  case neg =>
    rw [if_pos he] at hq
    refine aC rfl (fun hc => ?_) (fun hc => ?_)
    case refine_2 =>
      have hc := of_decide_eq_false hc
      simp only [ne_eq, Decidable.not_not] at hc
      omega
    refine aE ?_
    show AWp _ _ _ _ _ _ _
    refine aR ?_
    (refine nx (aM (gN rfl) rfl rfl rfl rfl rfl) rfl ?_)
    (refine nx (a_add (gN rfl) rfl rfl rfl rfl rfl rfl (by first | omega | (simp only [List.length_map, List.length_append, List.length_cons, List.length_nil] <;> omega) | (simp <;> omega))) rfl ?_)
    (refine nx (aA (gN rfl) rfl rfl rfl rfl rfl) rfl ?_)
    refine ⟨j, (0, AV.bp 350001 0 []) :: (3, .own (intsV hs) 200025) :: (200025, .tok 3 1) :: (4, .val (.i ((n + 1 : Nat) : Int))) :: cstM c1, by omega, ⟨n + 1, c1, hs, hq, hF1, hu1.mono (by omega), by omega, by omega, rfl⟩, (wk_sub (s' := (0, AV.bp 350001 0 []) :: (3, .own (intsV hs) 200025) :: (200025, .tok 3 1) :: (4, .val (.i ((n + 1 : Nat) : Int))) :: cstF c1) ⟨rfl, rfl, rfl, rfl, rfl, rfl, rfl, rfl, rfl, rfl, rfl, trivial⟩).trans (wk_renF 400001 300001 rfl rfl (hUlow U (by decide)) (by kernel_rfl) (by kernel_rfl) (by kernel_rfl))⟩
  rw [if_neg (by simpa using he)] at hq
  refine aC rfl (fun hc => ?_) (fun hc => aK ?_)
  · exfalso
    rw [he] at hc
    simp at hc
  show AWp _ _ _ _ _ _ _
  have hn1 : n < c1.ns.length := by omega
  have hFp := hF1.parts hn1
  have hup := hu1.parts (by omega) n
  have hlp : (pC c1 n).1.ns.length ≤ 1000 := Nat.le_trans (len_pw _) hFp.big
  have hpc := uParts_abs c1 n hn1 hF1.trm (by omega) (hF1.kid.fi hn1 (by omega))
  obtain ⟨c2, hc2⟩ : ∃ c2, c2 = (pC c1 n).1 := ⟨_, rfl⟩
  obtain ⟨fr, hfr⟩ : ∃ x, x = (pC c1 n).2.1 := ⟨_, rfl⟩
  obtain ⟨to, hto⟩ : ∃ x, x = (pC c1 n).2.2 := ⟨_, rfl⟩
  have hft : fr ≤ to := by rw [hfr, hto]; exact parts_pos.1
  have htl : to ≤ c2.ns.length := by rw [hto, hc2]; exact snd_le hF1.kid hn1
  rw [← hc2] at hq hFp hup hlp hpc
  rw [← hfr, ← hto] at hq hpc
  refine AWp.wk ((wk_sub (s' := (0, AV.bp 350001 0 []) :: (3, .own (intsV hs) 200025) :: (200025, .tok 3 1) :: (4, .val (.i (n : Int))) :: cstF c1) ⟨rfl, rfl, rfl, rfl, rfl, rfl, rfl, rfl, rfl, rfl, rfl, trivial⟩).trans (wk_renF 400001 300001 rfl rfl (hUlow U (by decide)) (by kernel_rfl) (by kernel_rfl) (by kernel_rfl))) ?_
  have hss := nats_size hs
  refine aS (aR ?_)
  (refine nx (aM (gN rfl) rfl rfl rfl rfl rfl) rfl ?_)
  (refine nx (aM (gN rfl) rfl rfl rfl rfl rfl) rfl ?_)
  (refine nx (a_bslice (gN rfl) rfl rfl rfl rfl rfl rfl rfl rfl rfl rfl rfl rfl rfl) rfl ?_)
  (refine nx (a_app (gN rfl) rfl rfl rfl rfl rfl rfl rfl rfl rfl rfl rfl rfl rfl rfl rfl (by first | assumption | exact sZ rfl | exact Tm.size_all _ | exact Bd.size_all _ | exact ints_size _ | exact bys_size _ | exact Lt.size_all _) (by first | assumption | exact sZ rfl | exact Tm.size_all _ | exact Bd.size_all _ | exact ints_size _ | exact bys_size _ | exact Lt.size_all _) (by first | omega | (simp only [List.length_map, List.length_append, List.length_cons, List.length_nil] <;> omega) | (simp <;> omega))) (by kernel_rfl) ?_)
  (refine nx (aA (gN rfl) rfl rfl rfl rfl rfl) rfl ?_)
  show AWp _ _ _ _ _ _ _
  refine AWp.wk ((wk_sub (s' := (0, AV.bp 350001 0 []) :: (3, .own (intsV (hs ++ [n])) 300025) :: (300025, .tok 3 1) :: (4, .val (.i (n : Int))) :: cstM c1) ⟨rfl, ?_, rfl, rfl, rfl, rfl, rfl, rfl, rfl, rfl, rfl, trivial⟩).trans (wk_ren 300025 200025 rfl rfl (by kernel_rfl) (by kernel_rfl))) ?_
  · show _ = some (AV.own (.lst ((hs ++ [n]).map fun n : Nat => CV.i (n : Int))) 300025)
    rw [List.map_append]; rfl
  refine aS (aR ?_)
  (refine nx (aM (gN rfl) rfl rfl rfl rfl rfl) rfl ?_)
  (refine nx (aM (gN rfl) rfl rfl rfl rfl rfl) rfl ?_)
  (refine nx (a_callO (gN rfl) rfl rfl rfl rfl rfl (hpc) (by repeat (first | exact trivial | refine ⟨rfl, ?_⟩)) (by first | rfl | kernel_rfl) (by first | rfl | kernel_rfl) (by first | rfl | kernel_rfl) (by first | rfl | kernel_rfl) (hnb_of (by first | rfl | kernel_rfl))) rfl ?_)
  (refine nx (aM (gN rfl) rfl rfl rfl rfl rfl) rfl ?_)
  (refine nx (aX (gN rfl) rfl rfl rfl rfl rfl rfl) rfl ?_)
  (refine nx (aX (gN rfl) rfl rfl rfl rfl rfl rfl) rfl ?_)
  (refine nx (aA (gN rfl) rfl rfl rfl rfl rfl) rfl ?_)
  (refine nx (aA (gN rfl) rfl rfl rfl rfl rfl) rfl ?_)
  show AWp _ _ _ _ _ _ _
  refine aS (aR ?_)
  (refine nx (aM (gN rfl) rfl rfl rfl rfl rfl) rfl ?_)
  (refine nx (aA (gN rfl) rfl rfl rfl rfl rfl) rfl ?_)
  show AWp _ _ _ _ _ _ _
  cases hus : useC k (List.range' fr (to - fr)) c2.ns with
  | none => rw [hus] at hq; cases hq
  | some ns =>
  rw [hus] at hq
  simp only at hq
  refine aB (awp_loop (fun m s => ∃ i ns1, i + m = to - fr ∧ useC k (List.range' (fr + i) m) ns1 = some ns ∧ FitU ⟨ns1, c2.vr, c2.ps⟩ ∧ ns1.length = c2.ns.length ∧ usB ns1 ((n : Int) * 1000 + i) ∧ s = (0, AV.bp 350001 0 []) :: (3, .own (intsV (hs ++ [n])) 200025) :: (200025, .tok 3 1) :: (4, .val (.i (n : Int))) :: (6, .val (.i (to : Int))) :: (7, .val (.i ((fr + i : Nat) : Int))) :: cstF ⟨ns1, c2.vr, c2.ps⟩) (n := to - fr) (s' := (0, AV.bp 350001 0 []) :: (3, .own (intsV (hs ++ [n])) 200025) :: (200025, .tok 3 1) :: (4, .val (.i (n : Int))) :: (6, .val (.i (to : Int))) :: (7, .val (.i ((fr + 0 : Nat) : Int))) :: cstF ⟨c2.ns, c2.vr, c2.ps⟩) ((wk_sub (s' := (0, AV.bp 350001 0 []) :: (3, .own (intsV (hs ++ [n])) 200025) :: (200025, .tok 3 1) :: (4, .val (.i (n : Int))) :: (6, .val (.i (to : Int))) :: (7, .val (.i ((fr + 0 : Nat) : Int))) :: cstM c2) ⟨rfl, rfl, rfl, rfl, rfl, rfl, rfl, rfl, rfl, rfl, rfl, rfl, rfl, trivial⟩).trans (wk_renF 300001 400001 rfl rfl (hUno hU (by kernel_rfl)) (by kernel_rfl) (by kernel_rfl) (by kernel_rfl))) ⟨0, c2.ns, by omega, hus, hFp, rfl, hup.mono (by omega), rfl⟩ ?_)
  rintro m s ⟨i, ns1, him, hu1, hF3, hl3, hb3, rfl⟩
  refine aS (aS (aR ?_))
  (refine nx (aM (gN rfl) rfl rfl rfl rfl rfl) rfl ?_)
  (refine nx (aM (gN rfl) rfl rfl rfl rfl rfl) rfl ?_)
  (refine nx (a_lss (gN rfl) rfl rfl rfl rfl rfl rfl) rfl ?_)
  show AWp _ _ _ _ _ _ _
  cases m with
  | zero =>
    have hus1 : some ns1 = some ns := hu1
    have hus1 := Option.some.inj hus1
    subst hus1
    refine aC rfl (fun hc => ?_) (fun hc => ?_)
    · exfalso
      have : ((fr + i : Nat) : Int) < to := by simpa using hc
      omega
    refine aE ?_
    show AWp _ _ _ _ _ _ _
    refine aR ?_
    (refine nx (aM (gN rfl) rfl rfl rfl rfl rfl) rfl ?_)
    (refine nx (a_add (gN rfl) rfl rfl rfl rfl rfl rfl (by first | omega | (simp only [List.length_map, List.length_append, List.length_cons, List.length_nil] <;> omega) | (simp <;> omega))) rfl ?_)
    (refine nx (aA (gN rfl) rfl rfl rfl rfl rfl) rfl ?_)
    refine ⟨j, (0, AV.bp 350001 0 []) :: (3, .own (intsV (hs ++ [n])) 200025) :: (200025, .tok 3 1) :: (4, .val (.i ((n + 1 : Nat) : Int))) :: cstM ⟨ns1, c2.vr, c2.ps⟩, by omega, ⟨n + 1, ⟨ns1, c2.vr, c2.ps⟩, hs ++ [n], hq, hF3, hb3.mono (by omega), by omega, by rw [List.length_append]; simp only [List.length_cons, List.length_nil]; omega, rfl⟩, (wk_sub (s' := (0, AV.bp 350001 0 []) :: (3, .own (intsV (hs ++ [n])) 200025) :: (200025, .tok 3 1) :: (4, .val (.i ((n + 1 : Nat) : Int))) :: cstF ⟨ns1, c2.vr, c2.ps⟩) ⟨rfl, rfl, rfl, rfl, rfl, rfl, rfl, rfl, rfl, rfl, rfl, trivial⟩).trans (wk_renF 400001 300001 rfl rfl (hUlow U (by decide)) (by kernel_rfl) (by kernel_rfl) (by kernel_rfl))⟩
  | succ m =>
    have hp1 : fr + i < ns1.length := by omega
    rw [List.range'_succ, useC] at hu1
    cases hd2 : headC k ns1 (fr + i) with
    | none => rw [hd2] at hu1; cases hu1
    | some r2 =>
    rw [hd2] at hu1
    simp only at hu1
    obtain ⟨hF4, hl4, hr4⟩ := FitU.head hF3 hp1 hd2
    have hb4 := hb3.head hd2
    have hdc2 := uHead_abs c2.vr c2.ps k ns1 (fr + i) r2 hd2 hF3.up hp1 (by omega)
    have hcst : cstF ⟨r2.1, c2.vr, c2.ps⟩ = [(450001, .obj), (35500100, .sl 400001 0 ns1.length 5), (35500101, .mref 300003), (35500102, .sl 300002 0 c2.ps.length 2), (400001, .mrow 194 5 (r2.1.map Nd.cv)), (300003, .mp (c2.vr.map vrv)), (300002, .mrow 207 2 (c2.ps.map psv))] := by simp only [cstF, hl4]
    rw [hcst] at hdc2
    obtain ⟨y, hy⟩ := nd_at (ns := r2.1) (n := r2.2) (by omega)
    have hy' := Nd.map_at hy
    have hlm : (r2.1.map Nd.cv).length = r2.1.length := List.length_map ..
    have hys : nS r2.1 r2.2 = y.us := by unfold nS; rw [getD_at hy]
    have hyb := hb4 r2.2
    rw [hys] at hyb hu1
    refine aC rfl (fun hc => ?_) (fun hc => ?_)
    case refine_2 =>
      have : ¬ ((fr + i : Nat) : Int) < to := by simpa using hc
      omega
    refine aK ?_
    show AWp _ _ _ _ _ _ _
    refine aS (aB (aD (by kernel_rfl) (by kernel_rfl) ?_))
    (refine nx (aM (gN rfl) rfl rfl rfl rfl rfl) rfl ?_)
    (refine nx (aNc (gN rfl) rfl rfl rfl rfl rfl) rfl ?_)
    (refine nx (aF (gN rfl) rfl rfl rfl rfl rfl rfl rfl rfl rfl) rfl ?_)
    (refine nx (aLf (gN rfl) rfl rfl rfl rfl rfl rfl rfl rfl rfl rfl rfl rfl rfl) rfl ?_)
    (refine nx (aM (gN rfl) rfl rfl rfl rfl rfl) rfl ?_)
    (refine nx (aM (gN rfl) rfl rfl rfl rfl rfl) rfl ?_)
    (refine nx (a_callOU ([(400001, .mrow 194 5 (r2.1.map Nd.cv))]) (gN rfl) rfl rfl rfl rfl rfl (hdc2) (by repeat (first | exact trivial | refine ⟨rfl, ?_⟩)) (by first | rfl | kernel_rfl) (by first | rfl | kernel_rfl) (by first | rfl | kernel_rfl) (by first | rfl | kernel_rfl) (hnb_of (by first | rfl | kernel_rfl)) (by repeat (first | exact trivial | refine ⟨rfl, ?_⟩)) (by repeat (first | exact trivial | refine ⟨.inl rfl, ?_⟩ | refine ⟨.inr rfl, ?_⟩)) (by first | rfl | kernel_rfl) (by first | rfl | kernel_rfl)) rfl ?_)
    (refine nx (aIm (k := r2.2) (gN rfl) rfl rfl rfl rfl rfl rfl rfl rfl rfl (by first | rfl | omega | (simp only [List.length_set, List.length_map, List.length_append, List.length_cons, List.length_nil] <;> omega) | (simp <;> omega))) rfl ?_)
    (refine nx (a_fieldM (gN rfl) rfl rfl rfl rfl rfl rfl rfl rfl rfl) rfl ?_)
    (refine nx (a_loadM (gN rfl) rfl rfl rfl rfl rfl rfl rfl rfl (hy') rfl (by first | rfl | omega | (simp only [List.length_set, List.length_map, List.length_append, List.length_cons, List.length_nil] <;> omega) | (simp <;> omega)) rfl rfl) rfl ?_)
    (refine nx (a_add (gN rfl) rfl rfl rfl rfl rfl rfl (by first | omega | (simp only [List.length_map, List.length_append, List.length_cons, List.length_nil] <;> omega) | (simp <;> omega))) rfl ?_)
    (refine nx (aIm (k := r2.2) (gN rfl) rfl rfl rfl rfl rfl rfl rfl rfl rfl (by first | rfl | omega | (simp only [List.length_set, List.length_map, List.length_append, List.length_cons, List.length_nil] <;> omega) | (simp <;> omega))) rfl ?_)
    (refine nx (a_fieldM (gN rfl) rfl rfl rfl rfl rfl rfl rfl rfl rfl) rfl ?_)
    (refine nx (a_storeM (gN rfl) rfl rfl rfl rfl rfl rfl (hy') rfl rfl (by first | rfl | omega | (simp only [List.length_set, List.length_map, List.length_append, List.length_cons, List.length_nil] <;> omega) | (simp <;> omega)) rfl) rfl ?_)
    refine ⟨by kernel_rfl, ?_⟩
    show AWp _ _ _ _ _ _ _
    refine aR ?_
    (refine nx (aM (gN rfl) rfl rfl rfl rfl rfl) rfl ?_)
    (refine nx (a_add (gN rfl) rfl rfl rfl rfl rfl rfl (by first | omega | (simp only [List.length_map, List.length_append, List.length_cons, List.length_nil] <;> omega) | (simp <;> omega))) rfl ?_)
    (refine nx (aA (gN rfl) rfl rfl rfl rfl rfl) rfl ?_)
    refine ⟨m, (0, AV.bp 350001 0 []) :: (3, .own (intsV (hs ++ [n])) 200025) :: (200025, .tok 3 1) :: (4, .val (.i (n : Int))) :: (6, .val (.i (to : Int))) :: (7, .val (.i ((fr + (i + 1) : Nat) : Int))) :: cstF ⟨setUs r2.1 r2.2 (y.us + 1), c2.vr, c2.ps⟩, by omega, ⟨i + 1, setUs r2.1 r2.2 (y.us + 1), by omega, by rw [← Nat.add_assoc]; exact hu1, hF4.us _ _, by rw [setUsLen]; omega, (hb4.set (by omega)).mono (by omega), rfl⟩, wk_sub ⟨rfl, rfl, rfl, rfl, rfl, rfl, rfl, ?_, rfl, rfl, ?_, rfl, rfl, trivial⟩⟩
    · show _ = some (AV.sl 400001 0 (setUs r2.1 r2.2 (y.us + 1)).length 5); rw [setUsLen, hl4]; rfl
    · show _ = some (AV.mrow 194 5 ((setUs r2.1 r2.2 (y.us + 1)).map Nd.cv)); rw [map_setUs hy]; rfl
theorem useC_keep {k : Nat} {vr ps} : ∀ (l : List Nat) {ns ns' : List Nd} {B : Int}, useC k l ns = some ns' → FitU ⟨ns, vr, ps⟩ → (∀ p ∈ l, p < ns.length) → usB ns B → FitU ⟨ns', vr, ps⟩ ∧ ns'.length = ns.length ∧ usB ns' (B + l.length)
  | [], ns, ns', B, e, h, _, hb => by cases e; exact ⟨h, rfl, hb.mono (by simp)⟩
  | p :: l, ns, ns', B, e, h, hl, hb => by
    rw [useC] at e
    cases hd : headC k ns p with
    | none => rw [hd] at e; cases e
    | some r =>
      rw [hd] at e
      simp only at e
      obtain ⟨h1, h2, h3⟩ := h.head (hl p (by simp)) hd
      have hb1 := hb.head hd
      have hb2 := hb1 r.2
      obtain ⟨g1, g2, g3⟩ := useC_keep l e (h1.us _ _) (fun q hq => by rw [setUsLen, h2]; exact hl q (List.mem_cons_of_mem _ hq)) (hb1.set (by omega))
      exact ⟨g1, by rw [g2, setUsLen, h2], g3.mono (by simp only [List.length_cons]; omega)⟩
theorem countC_keep {k : Nat} : ∀ (j n : Nat) {c : Cl} {hs : List Nat} {q}, countC k j n c hs = some q → FitU c → usB c.ns ((n : Int) * 1000) → n ≤ 1000 → (∀ h ∈ hs, h < c.ns.length) → hs.length ≤ n → FitU q.1 ∧ usB q.1.ns 1000000 ∧ (∀ h ∈ q.2, h < q.1.ns.length) ∧ q.2.length ≤ 1000
  | 0, _, _, _, _, e, _, _, _, _, _ => by cases e
  | j + 1, n, c, hs, q, e, hF, hu, hn, hh, hl => by
    have hl0 : c.ns.length ≤ 1000 := Nat.le_trans (len_pw _) hF.big
    rw [countC] at e
    split at e
    · rename_i hlt
      cases hd : headC k c.ns n with
      | none => rw [hd] at e; cases e
      | some r =>
        rw [hd] at e
        simp only at e
        obtain ⟨h1, h2, h3⟩ := FitU.head (vr := c.vr) (ps := c.ps) hF hlt hd
        have hu1 := hu.head hd
        split at e
        · exact countC_keep j (n + 1) e h1 (hu1.mono (by omega)) (by omega) (fun h hm => by show h < r.1.length; rw [h2]; exact hh h hm) (by omega)
        · have hn1 : n < r.1.length := by omega
          obtain ⟨c1, hc1⟩ : ∃ c1 : Cl, c1 = ⟨r.1, c.vr, c.ps⟩ := ⟨_, rfl⟩
          rw [← hc1] at e h1
          have hn1 : n < c1.ns.length := by rw [hc1]; exact hn1
          have hp := h1.parts hn1
          have hu2 : usB c1.ns ((n : Int) * 1000) := by rw [hc1]; exact hu1
          have hup := hu2.parts (by omega) n
          have hlp : (pC c1 n).1.ns.length ≤ 1000 := Nat.le_trans (len_pw _) hp.big
          have hsn := snd_le h1.kid hn1
          cases hus : useC k (List.range' (pC c1 n).2.1 ((pC c1 n).2.2 - (pC c1 n).2.1)) (pC c1 n).1.ns with
          | none => rw [hus] at e; cases e
          | some ns =>
            rw [hus] at e
            simp only at e
            obtain ⟨g1, g2, g3⟩ := useC_keep (vr := (pC c1 n).1.vr) (ps := (pC c1 n).1.ps) _ hus hp (fun p hp2 => by rw [List.mem_range'_1] at hp2; omega) hup
            rw [List.length_range'] at g3
            have hge : c1.ns.length ≤ (pC c1 n).1.ns.length := parts_len
            refine countC_keep j (n + 1) e g1 (g3.mono (by omega)) (by omega) (fun h hm => ?_) (by rw [List.length_append]; simp only [List.length_cons, List.length_nil]; omega)
            show h < ns.length
            rw [g2]
            have : c1.ns.length = c.ns.length := by rw [hc1]; exact h2
            rcases List.mem_append.1 hm with hm | hm
            · have := hh h hm; omega
            · rw [List.mem_singleton] at hm; omega
    · cases e
      exact ⟨hF, hu.mono (by omega), hh, by show hs.length ≤ 1000; omega⟩
theorem downC_keep {k : Nat} {vr ps} : ∀ (l : List Nat) {ns : List Nd} {o : List Nat} {q} {B : Int}, downC k l ns o = some q → FitU ⟨ns, vr, ps⟩ → (∀ p ∈ l, p < ns.length) → usB ns B → (∀ h ∈ o, h < ns.length) → FitU ⟨q.1, vr, ps⟩ ∧ q.1.length = ns.length ∧ usB q.1 (B + l.length) ∧ o.length ≤ q.2.length ∧ ∀ h ∈ q.2, h < ns.length
  | [], ns, o, q, B, e, h, _, hb, ho => by cases e; exact ⟨h, rfl, hb.mono (by simp), Nat.le_refl _, ho⟩
  | p :: l, ns, o, q, B, e, h, hl, hb, ho => by
    rw [downC] at e
    cases hd : headC k ns p with
    | none => rw [hd] at e; cases e
    | some r =>
      rw [hd] at e
      simp only at e
      obtain ⟨h1, h2, h3⟩ := h.head (hl p (by simp)) hd
      have hb1 := hb.head hd
      have hb2 := hb1 r.2
      obtain ⟨g1, g2, g3, g4, g5⟩ := downC_keep l e (h1.us _ _) (fun q hq => by rw [setUsLen, h2]; exact hl q (List.mem_cons_of_mem _ hq)) (hb1.set (by omega)) (fun x hx => by
        rw [setUsLen, h2]
        split at hx
        · rcases List.mem_append.1 hx with hx | hx
          · exact ho x hx
          · rw [List.mem_singleton] at hx; omega
        · exact ho x hx)
      refine ⟨g1, by rw [g2, setUsLen, h2], g3.mono (by simp only [List.length_cons]; omega), ?_, fun x hx => by have := g5 x hx; rw [setUsLen, h2] at this; exact this⟩
      split at g4
      · rw [List.length_append] at g4; omega
      · exact g4
theorem ordC_grow {k : Nat} : ∀ (j i : Nat) {c : Cl} {o : List Nat} {q}, ordC k j i c o = some q → FitU c → (∀ h ∈ o, h < c.ns.length) → ∀ {B : Int}, 0 ≤ B → usB c.ns B → o.length ≤ q.2.length
  | 0, _, _, _, _, e, _, _, _, _, _ => by cases e
  | j + 1, i, c, o, q, e, hF, ho, B, hB, hu => by
    rw [ordC] at e
    cases hi : o[i]? with
    | none => rw [hi] at e; cases e; exact Nat.le_refl _
    | some g =>
      rw [hi] at e
      simp only at e
      have hg := ho g (List.mem_of_getElem? hi)
      have hp := hF.parts hg
      have hsn := snd_le hF.kid hg
      cases hd : downC k (List.range' (pC c g).2.1 ((pC c g).2.2 - (pC c g).2.1)) (pC c g).1.ns o with
      | none => rw [hd] at e; cases e
      | some qd =>
        rw [hd] at e
        simp only at e
        have hge : c.ns.length ≤ (pC c g).1.ns.length := parts_len
        obtain ⟨g1, g2, g3, g4, g5⟩ := downC_keep (vr := (pC c g).1.vr) (ps := (pC c g).1.ps) _ hd hp (fun p hp2 => by rw [List.mem_range'_1] at hp2; omega) (hu.parts hB g) (fun x hx => by have := ho x hx; omega)
        have := ordC_grow j (i + 1) e g1 (fun x hx => by show x < qd.1.length; rw [g2]; exact g5 x hx) (by omega) g3
        omega
theorem nats_at {l : List Nat} {i n : Nat} (h : l[i]? = some n) : (l.map fun n : Nat => CV.i (n : Int))[i]? = some (.i (n : Int)) := by rw [List.getElem?_map, h]; rfl
abbrev us0 (ns : List Nd) (n : Nat) : Bool := decide (nS ns n = 0)
-- 
set_option maxHeartbeats 16000000 in
theorem uOrd_abs (k : Nat) (c0 : Cl) (cn od : Cl × List Nat) (hq : countC k k 0 c0 [] = some cn) (ho : ordC k k 0 cn.1 (cn.2.filter fun n => decide (nS cn.1.ns n = 0)) = some od) (hF0 : FitU c0) (hu0 : usB c0.ns 0) (hol : od.2.length ≤ 1000) : AFunO Tryz.prog 123 (cstM c0) [.bp 350001 0 []] (.tup [intsV od.2, .b (decide ((od.2.length : Int) = cn.2.length))]) (cstM od.1) := by
  obtain ⟨hF1, hu1, hh1, hhl⟩ := countC_keep k 0 hq hF0 (by simpa using hu0) (by omega) (fun h hm => by cases hm) (Nat.le_refl _)
  have hcnt := uCount_abs k k c0 cn hq hF0 hu0
  obtain ⟨c, hc⟩ : ∃ c, c = cn.1 := ⟨_, rfl⟩
  obtain ⟨hs, hhs⟩ : ∃ hs, hs = cn.2 := ⟨_, rfl⟩
  rw [← hc] at ho hF1 hu1 hh1 hcnt
  rw [← hhs] at ho hh1 hhl hcnt ⊢
  have hl : c.ns.length ≤ 1000 := Nat.le_trans (len_pw _) hF1.big
  have hlm : (c.ns.map Nd.cv).length = c.ns.length := List.length_map ..
  have hss := nats_size hs
  refine afunO_of Tryz.func123 Tryz.ntmps123 rfl rfl rfl rfl rfl rfl ?_
  intro w U hU
  refine aS (aR ?_)
  (refine nx (aA (gN rfl) rfl rfl rfl rfl rfl) rfl ?_)
  (refine nx (aA (gN rfl) rfl rfl rfl rfl rfl) rfl ?_)
  show AWp _ _ _ _ _ _ _
  refine aS (aR ?_)
  (refine nx (aM (gN rfl) rfl rfl rfl rfl rfl) rfl ?_)
  (refine nx (a_callO (gN rfl) rfl rfl rfl rfl rfl (hcnt) (by repeat (first | exact trivial | refine ⟨rfl, ?_⟩)) (by first | rfl | kernel_rfl) (by first | rfl | kernel_rfl) (by first | rfl | kernel_rfl) (by first | rfl | kernel_rfl) (hnb_of (by first | rfl | kernel_rfl))) rfl ?_)
  (refine nx (aA (gN rfl) rfl rfl rfl rfl rfl) rfl ?_)
  show AWp _ _ _ _ _ _ _
  refine aS (aR ?_)
  (refine nx (aA (gN rfl) rfl rfl rfl rfl rfl) rfl ?_)
  show AWp _ _ _ _ _ _ _
  refine aS (aS (aR ?_))
  (refine nx (aM (gN rfl) rfl rfl rfl rfl rfl) rfl ?_)
  (refine nx (a_len (gN rfl) rfl rfl rfl rfl rfl rfl rfl) rfl ?_)
  (refine nx (aM (gN rfl) rfl rfl rfl rfl rfl) rfl ?_)
  show AWp _ _ _ _ _ _ _
  refine aB (awp_count hs.length (fun i => (0, AV.bp 350001 0 []) :: (4, .val (intsV hs)) :: (5, .own (intsV ((hs.take i).filter (us0 c.ns))) 200033) :: (200033, .tok 3 1) :: (15, .val (intsV hs)) :: (16, .val (.i (hs.map fun n : Nat => CV.i (n : Int)).length)) :: (17, .val (.i i)) :: cstM c) ((wk_nil 5 200033 3 1 rfl rfl rfl rfl rfl rfl (by kernel_rfl)).trans (wk_sub ⟨rfl, rfl, rfl, rfl, rfl, rfl, rfl, rfl, rfl, rfl, rfl, rfl, rfl, rfl, trivial⟩)) ?_)
  intro i hi
  refine aS (aR ?_)
  (refine nx (a_lss (gN rfl) rfl rfl rfl rfl rfl rfl) rfl ?_)
  show AWp _ _ _ _ _ _ _
  refine aS (aC rfl (fun hlt => ?_) (fun hlt => ?_))
  · have hil : i < hs.length := by simpa using hlt
    obtain ⟨n, hn⟩ : ∃ n, hs[i]? = some n := ⟨hs[i], List.getElem?_eq_getElem hil⟩
    have hn' := nats_at hn
    have hnl := hh1 n (List.mem_of_getElem? hn)
    obtain ⟨x, hx⟩ := nd_at hnl
    have hx' := Nd.map_at hx
    have hxs : nS c.ns n = x.us := by unfold nS; rw [getD_at hx]
    have htk : (hs.take (i + 1)).filter (us0 c.ns) = (hs.take i).filter (us0 c.ns) ++ (if nS c.ns n = 0 then [n] else []) := by
      rw [List.take_add_one, hn, List.filter_append]
      congr 1
      show List.filter (us0 c.ns) [n] = _
      unfold us0
      by_cases h0 : nS c.ns n = 0
      · simp [h0]
      · simp [h0]
    have hfs := nats_size ((hs.take i).filter (us0 c.ns))
    have hfl : ((hs.take i).filter (us0 c.ns)).length ≤ 1000 := Nat.le_trans (List.length_filter_le _ _) (by rw [List.length_take]; omega)
    refine aK ?_
    show AWp _ _ _ _ _ _ _
    refine aS (aB (aS (aR ?_)))
    (refine nx (a_index (j := i) (gN rfl) rfl rfl rfl rfl rfl rfl rfl rfl rfl (hn') rfl (hss)) rfl ?_)
    (refine nx (a_load_ad (gN rfl) rfl rfl rfl rfl rfl rfl rfl rfl rfl) rfl ?_)
    (refine nx (aA (gN rfl) rfl rfl rfl rfl rfl) rfl ?_)
    show AWp _ _ _ _ _ _ _
    refine aS (aR ?_)
    (refine nx (aM (gN rfl) rfl rfl rfl rfl rfl) rfl ?_)
    (refine nx (aNc (gN rfl) rfl rfl rfl rfl rfl) rfl ?_)
    (refine nx (aF (gN rfl) rfl rfl rfl rfl rfl rfl rfl rfl rfl) rfl ?_)
    (refine nx (aLf (gN rfl) rfl rfl rfl rfl rfl rfl rfl rfl rfl rfl rfl rfl rfl) rfl ?_)
    (refine nx (aM (gN rfl) rfl rfl rfl rfl rfl) rfl ?_)
    (refine nx (aIm (k := n) (gN rfl) rfl rfl rfl rfl rfl rfl rfl rfl rfl (by first | rfl | omega | (simp only [List.length_set, List.length_map, List.length_append, List.length_cons, List.length_nil] <;> omega) | (simp <;> omega))) rfl ?_)
    (refine nx (a_fieldM (gN rfl) rfl rfl rfl rfl rfl rfl rfl rfl rfl) rfl ?_)
    (refine nx (a_loadM (gN rfl) rfl rfl rfl rfl rfl rfl rfl rfl (hx') rfl (by first | rfl | omega | (simp only [List.length_set, List.length_map, List.length_append, List.length_cons, List.length_nil] <;> omega) | (simp <;> omega)) rfl rfl) rfl ?_)
    (refine nx (a_eql (gN rfl) rfl rfl rfl rfl rfl rfl) rfl ?_)
    show AWp _ _ _ _ _ _ _
    refine AWp.wk (wk_sub (s' := (0, AV.bp 350001 0 []) :: (4, .val (intsV hs)) :: (5, .own (intsV ((hs.take i).filter (us0 c.ns))) 200033) :: (200033, .tok 3 1) :: (7, .val (.i (n : Int))) :: (29, .val (.b (decide (x.us = 0)))) :: (15, .val (intsV hs)) :: (16, .val (.i (hs.map fun n : Nat => CV.i (n : Int)).length)) :: (17, .val (.i i)) :: cstM c) ⟨rfl, rfl, rfl, rfl, rfl, rfl, rfl, rfl, rfl, rfl, rfl, rfl, rfl, rfl, rfl, rfl, trivial⟩) ?_
    refine aC rfl (fun h0 => ?_) (fun h0 => ?_)
    · have h0 : x.us = 0 := by simpa using h0
      rw [hxs, if_pos h0] at htk
      refine aR ?_
      (refine nx (aM (gN rfl) rfl rfl rfl rfl rfl) rfl ?_)
      (refine nx (aM (gN rfl) rfl rfl rfl rfl rfl) rfl ?_)
      (refine nx (a_bslice (gN rfl) rfl rfl rfl rfl rfl rfl rfl rfl rfl rfl rfl rfl rfl) rfl ?_)
      (refine nx (a_app (gN rfl) rfl rfl rfl rfl rfl rfl rfl rfl rfl rfl rfl rfl rfl rfl rfl (by first | assumption | exact sZ rfl | exact Tm.size_all _ | exact Bd.size_all _ | exact ints_size _ | exact bys_size _ | exact Lt.size_all _) (by first | assumption | exact sZ rfl | exact Tm.size_all _ | exact Bd.size_all _ | exact ints_size _ | exact bys_size _ | exact Lt.size_all _) (by first | omega | (simp only [List.length_map, List.length_append, List.length_cons, List.length_nil] <;> omega) | (simp <;> omega))) (by kernel_rfl) ?_)
      (refine nx (aA (gN rfl) rfl rfl rfl rfl rfl) rfl ?_)
      show AWp _ _ _ _ _ _ _
      refine aR ?_
      (refine nx (a_add (gN rfl) rfl rfl rfl rfl rfl rfl (by first | omega | (simp only [List.length_map, List.length_append, List.length_cons, List.length_nil] <;> omega) | (simp <;> omega))) rfl ?_)
      (refine nx (aM (gN rfl) rfl rfl rfl rfl rfl) rfl ?_)
      refine ⟨hil, Wk.trans (wk_sub (s' := (0, AV.bp 350001 0 []) :: (4, .val (intsV hs)) :: (5, .own (intsV ((hs.take (i + 1)).filter (us0 c.ns))) 300033) :: (300033, .tok 3 1) :: (15, .val (intsV hs)) :: (16, .val (.i (hs.map fun n : Nat => CV.i (n : Int)).length)) :: (17, .val (.i ((i + 1 : Nat) : Int))) :: cstM c) ⟨rfl, rfl, ?_, rfl, rfl, rfl, rfl, rfl, rfl, rfl, rfl, rfl, rfl, rfl, trivial⟩) (wk_ren 300033 200033 rfl rfl (by kernel_rfl) (by kernel_rfl))⟩
      rw [htk]
      show _ = some (AV.own (.lst (((hs.take i).filter (us0 c.ns) ++ [n]).map fun n : Nat => CV.i (n : Int))) 300033)
      rw [List.map_append]; rfl
    · have h0 : ¬ x.us = 0 := by simpa using h0
      rw [hxs, if_neg h0, List.append_nil] at htk
      refine aK ?_
      show AWp _ _ _ _ _ _ _
      refine aR ?_
      (refine nx (a_add (gN rfl) rfl rfl rfl rfl rfl rfl (by first | omega | (simp only [List.length_map, List.length_append, List.length_cons, List.length_nil] <;> omega) | (simp <;> omega))) rfl ?_)
      (refine nx (aM (gN rfl) rfl rfl rfl rfl rfl) rfl ?_)
      refine ⟨hil, ?_⟩
      show Wk _ _ _ _ (_ :: _ :: (5, .own (intsV ((hs.take (i + 1)).filter (us0 c.ns))) 200033) :: _ :: _ :: _ :: _ :: cstM c)
      rw [htk]
      exact wk_sub ⟨rfl, rfl, rfl, rfl, rfl, rfl, rfl, rfl, rfl, rfl, rfl, rfl, rfl, rfl, trivial⟩
  have hil : i = hs.length := by
    have : ¬ i < hs.length := by simpa using hlt
    omega
  subst hil
  rw [List.take_length]
  refine aE ?_
  show AWp _ _ _ _ _ _ _
  refine aS (aS (aR ?_))
  (refine nx (aA (gN rfl) rfl rfl rfl rfl rfl) rfl ?_)
  show AWp _ _ _ _ _ _ _
  have ho2 : ∀ h ∈ hs.filter (us0 c.ns), h < c.ns.length := fun h hm => hh1 h (List.mem_filter.1 hm).1
  refine aB (awp_loop (fun j s => ∃ i c o, ordC k j i c o = some od ∧ FitU c ∧ usB c.ns (1000000 + (i : Int) * 1000) ∧ (∀ h ∈ o, h < c.ns.length) ∧ i ≤ o.length ∧ s = (0, AV.bp 350001 0 []) :: (4, .val (intsV hs)) :: (5, .own (intsV o) 200082) :: (200082, .tok 3 1) :: (8, .val (.i (i : Int))) :: cstM c) (n := k) (s' := (0, AV.bp 350001 0 []) :: (4, .val (intsV hs)) :: (5, .own (intsV (hs.filter (us0 c.ns))) 200082) :: (200082, .tok 3 1) :: (8, .val (.i ((0 : Nat) : Int))) :: cstM c) ((wk_sub (s' := (0, AV.bp 350001 0 []) :: (4, .val (intsV hs)) :: (5, .own (intsV (hs.filter (us0 c.ns))) 200033) :: (200033, .tok 3 1) :: (8, .val (.i ((0 : Nat) : Int))) :: cstM c) ⟨rfl, rfl, rfl, rfl, rfl, rfl, rfl, rfl, rfl, rfl, rfl, rfl, trivial⟩).trans (wk_ren 200033 200082 rfl rfl (by kernel_rfl) (by kernel_rfl))) ⟨0, c, hs.filter (us0 c.ns), ho, hF1, hu1.mono (by omega), ho2, Nat.zero_le _, rfl⟩ ?_)
  clear ho ho2 hlm hl hcnt hF1 hu1 hh1
  rintro j s ⟨i, c, o, ho, hF, hu, hh, hio, rfl⟩
  have hl : c.ns.length ≤ 1000 := Nat.le_trans (len_pw _) hF.big
  have hol1 : o.length ≤ od.2.length := ordC_grow j i ho hF hh (by omega) hu
  have hos := nats_size o
  cases j with
  | zero => cases ho
  | succ j =>
  rw [ordC] at ho
  refine aS (aS (aR ?_))
  (refine nx (aM (gN rfl) rfl rfl rfl rfl rfl) rfl ?_)
  (refine nx (aM (gN rfl) rfl rfl rfl rfl rfl) rfl ?_)
  (refine nx (a_len (gN rfl) rfl rfl rfl rfl rfl rfl rfl) rfl ?_)
  (refine nx (a_lss (gN rfl) rfl rfl rfl rfl rfl rfl) rfl ?_)
  show AWp _ _ _ _ _ _ _
  cases hoi : o[i]? with
  | none =>
    rw [hoi] at ho
    simp only at ho
    have ho := Option.some.inj ho
    subst ho
    have hil : o.length ≤ i := List.getElem?_eq_none_iff.1 hoi
    refine aC rfl (fun hc => ?_) (fun hc => ?_)
    · exfalso
      have : i < o.length := by simpa using hc
      omega
    refine aE ?_
    show AWp _ _ _ _ _ _ _
    refine aS (aR ?_)
    (refine nx (aM (gN rfl) rfl rfl rfl rfl rfl) rfl ?_)
    (refine nx (aM (gN rfl) rfl rfl rfl rfl rfl) rfl ?_)
    (refine nx (a_len (gN rfl) rfl rfl rfl rfl rfl rfl rfl) rfl ?_)
    (refine nx (aM (gN rfl) rfl rfl rfl rfl rfl) rfl ?_)
    (refine nx (a_len (gN rfl) rfl rfl rfl rfl rfl rfl rfl) rfl ?_)
    (refine nx (a_eql (gN rfl) rfl rfl rfl rfl rfl rfl) rfl ?_)
    (refine nx (aA (gN rfl) rfl rfl rfl rfl rfl) rfl ?_)
    (refine nx (aA (gN rfl) rfl rfl rfl rfl rfl) rfl ?_)
    show AWp _ _ _ _ _ _ _
    refine aT ⟨.inr rfl, _, Wk.refl _, ?_, rfl, rfl, rfl, rfl, rfl, rfl, rfl, trivial⟩
    show some (AV.tup [intsV o, .b (decide (((o.map fun n : Nat => CV.i (n : Int)).length : Int) = ((hs.map fun n : Nat => CV.i (n : Int)).length : Nat)))]) = _
    rw [List.length_map, List.length_map]
  | some g =>
  rw [hoi] at ho
  simp only at ho
  have hoi' := nats_at hoi
  have hil : i < o.length := (List.getElem?_eq_some_iff.1 hoi).1
  have hgl := hh g (List.mem_of_getElem? hoi)
  refine aC rfl (fun hc => ?_) (fun hc => ?_)
  case refine_2 =>
    have : ¬ i < o.length := by simpa using hc
    omega
  refine aK ?_
  show AWp _ _ _ _ _ _ _
  have hFp := hF.parts hgl
  have hup := hu.parts (by omega) g
  have hlp : (pC c g).1.ns.length ≤ 1000 := Nat.le_trans (len_pw _) hFp.big
  have hpc := uParts_abs c g hgl hF.trm (by omega) (hF.kid.fi hgl (by omega))
  obtain ⟨c2, hc2⟩ : ∃ c2, c2 = (pC c g).1 := ⟨_, rfl⟩
  obtain ⟨fr, hfr⟩ : ∃ x, x = (pC c g).2.1 := ⟨_, rfl⟩
  obtain ⟨to, hto⟩ : ∃ x, x = (pC c g).2.2 := ⟨_, rfl⟩
  have hft : fr ≤ to := by rw [hfr, hto]; exact parts_pos.1
  have htl : to ≤ c2.ns.length := by rw [hto, hc2]; exact snd_le hF.kid hgl
  have hge : c.ns.length ≤ c2.ns.length := by rw [hc2]; exact parts_len
  rw [← hc2] at ho hFp hup hlp hpc
  rw [← hfr, ← hto] at ho hpc
  refine aS (aB (aS (aR ?_)))
  (refine nx (aM (gN rfl) rfl rfl rfl rfl rfl) rfl ?_)
  (refine nx (aM (gN rfl) rfl rfl rfl rfl rfl) rfl ?_)
  (refine nx (aM (gN rfl) rfl rfl rfl rfl rfl) rfl ?_)
  (refine nx (a_index (j := i) (gN rfl) rfl rfl rfl rfl rfl rfl rfl rfl rfl (hoi') rfl (hos)) rfl ?_)
  (refine nx (a_load_ad (gN rfl) rfl rfl rfl rfl rfl rfl rfl rfl rfl) rfl ?_)
  (refine nx (a_callO (gN rfl) rfl rfl rfl rfl rfl (hpc) (by repeat (first | exact trivial | refine ⟨rfl, ?_⟩)) (by first | rfl | kernel_rfl) (by first | rfl | kernel_rfl) (by first | rfl | kernel_rfl) (by first | rfl | kernel_rfl) (hnb_of (by first | rfl | kernel_rfl))) rfl ?_)
  (refine nx (aM (gN rfl) rfl rfl rfl rfl rfl) rfl ?_)
  (refine nx (aX (gN rfl) rfl rfl rfl rfl rfl rfl) rfl ?_)
  (refine nx (aX (gN rfl) rfl rfl rfl rfl rfl rfl) rfl ?_)
  (refine nx (aA (gN rfl) rfl rfl rfl rfl rfl) rfl ?_)
  (refine nx (aA (gN rfl) rfl rfl rfl rfl rfl) rfl ?_)
  show AWp _ _ _ _ _ _ _
  refine aS (aR ?_)
  (refine nx (aM (gN rfl) rfl rfl rfl rfl rfl) rfl ?_)
  (refine nx (aA (gN rfl) rfl rfl rfl rfl rfl) rfl ?_)
  show AWp _ _ _ _ _ _ _
  cases hdn : downC k (List.range' fr (to - fr)) c2.ns o with
  | none => rw [hdn] at ho; cases ho
  | some qd =>
  rw [hdn] at ho
  simp only at ho
  have hqd : qd.2.length ≤ od.2.length := by
    obtain ⟨g1, g2, g3, g4, g5⟩ := downC_keep (vr := c2.vr) (ps := c2.ps) _ hdn hFp (fun p hp2 => by rw [List.mem_range'_1] at hp2; omega) hup (fun x hx => by have := hh x hx; omega)
    exact ordC_grow j (i + 1) ho g1 (fun x hx => by show x < qd.1.length; rw [g2]; exact g5 x hx) (by omega) g3
  refine aB (awp_loop (fun m s => ∃ e ns1 o1, e + m = to - fr ∧ downC k (List.range' (fr + e) m) ns1 o1 = some qd ∧ FitU ⟨ns1, c2.vr, c2.ps⟩ ∧ ns1.length = c2.ns.length ∧ usB ns1 (1000000 + (i : Int) * 1000 + e) ∧ (∀ h ∈ o1, h < c2.ns.length) ∧ i + 1 ≤ o1.length ∧ s = (0, AV.bp 350001 0 []) :: (4, .val (intsV hs)) :: (5, .own (intsV o1) 200082) :: (200082, .tok 3 1) :: (8, .val (.i (i : Int))) :: (10, .val (.i (to : Int))) :: (11, .val (.i ((fr + e : Nat) : Int))) :: cstF ⟨ns1, c2.vr, c2.ps⟩) (n := to - fr) (s' := (0, AV.bp 350001 0 []) :: (4, .val (intsV hs)) :: (5, .own (intsV o) 200082) :: (200082, .tok 3 1) :: (8, .val (.i (i : Int))) :: (10, .val (.i (to : Int))) :: (11, .val (.i ((fr + 0 : Nat) : Int))) :: cstF ⟨c2.ns, c2.vr, c2.ps⟩) ((wk_sub (s' := (0, AV.bp 350001 0 []) :: (4, .val (intsV hs)) :: (5, .own (intsV o) 200082) :: (200082, .tok 3 1) :: (8, .val (.i (i : Int))) :: (10, .val (.i (to : Int))) :: (11, .val (.i ((fr + 0 : Nat) : Int))) :: cstM c2) ⟨rfl, rfl, rfl, rfl, rfl, rfl, rfl, rfl, rfl, rfl, rfl, rfl, rfl, rfl, trivial⟩).trans (wk_renF 300001 400001 rfl rfl (hUno hU (by kernel_rfl)) (by kernel_rfl) (by kernel_rfl) (by kernel_rfl))) ⟨0, c2.ns, o, by omega, hdn, hFp, rfl, hup.mono (by omega), fun h hm => by have := hh h hm; omega, by omega, rfl⟩ ?_)
  rintro m s ⟨e, ns1, o1, hem, hd1, hF3, hl3, hb3, ho3, hi3, rfl⟩
  have ho1l : o1.length ≤ qd.2.length := (downC_keep _ hd1 hF3 (fun p hp2 => by rw [List.mem_range'_1] at hp2; omega) hb3 (fun x hx => by rw [hl3]; exact ho3 x hx)).2.2.2.1
  have ho1s := nats_size o1
  refine aS (aS (aR ?_))
  (refine nx (aM (gN rfl) rfl rfl rfl rfl rfl) rfl ?_)
  (refine nx (aM (gN rfl) rfl rfl rfl rfl rfl) rfl ?_)
  (refine nx (a_lss (gN rfl) rfl rfl rfl rfl rfl rfl) rfl ?_)
  show AWp _ _ _ _ _ _ _
  cases m with
  | zero =>
    have hd2 : some (ns1, o1) = some qd := hd1
    have hd2 := Option.some.inj hd2
    subst hd2
    refine aC rfl (fun hc => ?_) (fun hc => ?_)
    · exfalso
      have : ((fr + e : Nat) : Int) < to := by simpa using hc
      omega
    refine aE ?_
    show AWp _ _ _ _ _ _ _
    refine aR ?_
    (refine nx (aM (gN rfl) rfl rfl rfl rfl rfl) rfl ?_)
    (refine nx (a_add (gN rfl) rfl rfl rfl rfl rfl rfl (by first | omega | (simp only [List.length_map, List.length_append, List.length_cons, List.length_nil] <;> omega) | (simp <;> omega))) rfl ?_)
    (refine nx (aA (gN rfl) rfl rfl rfl rfl rfl) rfl ?_)
    refine ⟨j, (0, AV.bp 350001 0 []) :: (4, .val (intsV hs)) :: (5, .own (intsV o1) 200082) :: (200082, .tok 3 1) :: (8, .val (.i ((i + 1 : Nat) : Int))) :: cstM ⟨ns1, c2.vr, c2.ps⟩, by omega, ⟨i + 1, ⟨ns1, c2.vr, c2.ps⟩, o1, ho, hF3, hb3.mono (by omega), fun h hm => by show h < ns1.length; rw [hl3]; exact ho3 h hm, hi3, rfl⟩, (wk_sub (s' := (0, AV.bp 350001 0 []) :: (4, .val (intsV hs)) :: (5, .own (intsV o1) 200082) :: (200082, .tok 3 1) :: (8, .val (.i ((i + 1 : Nat) : Int))) :: cstF ⟨ns1, c2.vr, c2.ps⟩) ⟨rfl, rfl, rfl, rfl, rfl, rfl, rfl, rfl, rfl, rfl, rfl, rfl, trivial⟩).trans (wk_renF 400001 300001 rfl rfl (hUlow U (by decide)) (by kernel_rfl) (by kernel_rfl) (by kernel_rfl))⟩
  | succ m =>
    have hp1 : fr + e < ns1.length := by omega
    rw [List.range'_succ, downC] at hd1
    cases hd2 : headC k ns1 (fr + e) with
    | none => rw [hd2] at hd1; cases hd1
    | some r2 =>
    rw [hd2] at hd1
    simp only at hd1
    obtain ⟨hF4, hl4, hr4⟩ := FitU.head hF3 hp1 hd2
    have hb4 := hb3.head hd2
    have hdc2 := uHead_abs c2.vr c2.ps k ns1 (fr + e) r2 hd2 hF3.up hp1 (by omega)
    obtain ⟨y, hy⟩ := nd_at (ns := r2.1) (n := r2.2) (by omega)
    have hy' := Nd.map_at hy
    have hlm : (r2.1.map Nd.cv).length = r2.1.length := List.length_map ..
    have hys : nS r2.1 r2.2 = y.us := by unfold nS; rw [getD_at hy]
    have hyb := hb4 r2.2
    rw [hys] at hyb hd1
    refine aC rfl (fun hc => ?_) (fun hc => ?_)
    case refine_2 =>
      have : ¬ ((fr + e : Nat) : Int) < to := by simpa using hc
      omega
    refine aK ?_
    show AWp _ _ _ _ _ _ _
    refine aS (aB (aS (aR ?_)))
    (refine nx (aM (gN rfl) rfl rfl rfl rfl rfl) rfl ?_)
    (refine nx (aM (gN rfl) rfl rfl rfl rfl rfl) rfl ?_)
    (refine nx (a_callO (gN rfl) rfl rfl rfl rfl rfl (hdc2) (by repeat (first | exact trivial | refine ⟨rfl, ?_⟩)) (by first | rfl | kernel_rfl) (by first | rfl | kernel_rfl) (by first | rfl | kernel_rfl) (by first | rfl | kernel_rfl) (hnb_of (by first | rfl | kernel_rfl))) rfl ?_)
    (refine nx (aA (gN rfl) rfl rfl rfl rfl rfl) rfl ?_)
    show AWp _ _ _ _ _ _ _
    refine aS (aR ?_)
    (refine nx (aM (gN rfl) rfl rfl rfl rfl rfl) rfl ?_)
    (refine nx (aNc (gN rfl) rfl rfl rfl rfl rfl) rfl ?_)
    (refine nx (aF (gN rfl) rfl rfl rfl rfl rfl rfl rfl rfl rfl) rfl ?_)
    (refine nx (aLf (gN rfl) rfl rfl rfl rfl rfl rfl rfl rfl rfl rfl rfl rfl rfl) rfl ?_)
    (refine nx (aM (gN rfl) rfl rfl rfl rfl rfl) rfl ?_)
    (refine nx (aIm (k := r2.2) (gN rfl) rfl rfl rfl rfl rfl rfl rfl rfl rfl (by first | rfl | omega | (simp only [List.length_set, List.length_map, List.length_append, List.length_cons, List.length_nil] <;> omega) | (simp <;> omega))) rfl ?_)
    (refine nx (a_fieldM (gN rfl) rfl rfl rfl rfl rfl rfl rfl rfl rfl) rfl ?_)
    (refine nx (a_loadM (gN rfl) rfl rfl rfl rfl rfl rfl rfl rfl (hy') rfl (by first | rfl | omega | (simp only [List.length_set, List.length_map, List.length_append, List.length_cons, List.length_nil] <;> omega) | (simp <;> omega)) rfl rfl) rfl ?_)
    (refine nx (a_sub (gN rfl) rfl rfl rfl rfl rfl rfl (by first | omega | (simp only [List.length_map, List.length_append, List.length_cons, List.length_nil] <;> omega) | (simp <;> omega))) rfl ?_)
    (refine nx (aIm (k := r2.2) (gN rfl) rfl rfl rfl rfl rfl rfl rfl rfl rfl (by first | rfl | omega | (simp only [List.length_set, List.length_map, List.length_append, List.length_cons, List.length_nil] <;> omega) | (simp <;> omega))) rfl ?_)
    (refine nx (a_fieldM (gN rfl) rfl rfl rfl rfl rfl rfl rfl rfl rfl) rfl ?_)
    (refine nx (a_storeM (gN rfl) rfl rfl rfl rfl rfl rfl (hy') rfl rfl (by first | rfl | omega | (simp only [List.length_set, List.length_map, List.length_append, List.length_cons, List.length_nil] <;> omega) | (simp <;> omega)) rfl) rfl ?_)
    show AWp _ _ _ _ _ _ _
    obtain ⟨ns2, hn2⟩ : ∃ ns2, ns2 = setUs r2.1 r2.2 (y.us - 1) := ⟨_, rfl⟩
    have hm2 : ns2.map Nd.cv = (r2.1.map Nd.cv).set r2.2 (Nd.cw { y with us := y.us - 1 }) := by rw [hn2]; exact map_setUs hy
    have hl2 : ns2.length = r2.1.length := by rw [hn2, setUsLen]
    have hy2 : ns2[r2.2]? = some { y with us := y.us - 1 } := by rw [hn2]; exact setUs_at hy
    have hy2' := Nd.map_at hy2
    have hlm2 : (ns2.map Nd.cv).length = ns2.length := List.length_map ..
    have hF5 : FitU ⟨ns2, c2.vr, c2.ps⟩ := by rw [hn2]; exact hF4.us _ _
    have hb5 : usB ns2 (1000000 + (i : Int) * 1000 + e + 1) := by rw [hn2]; exact hb4.set (by omega)
    rw [← hn2] at hd1
    refine AWp.wk (wk_sub (s' := (0, AV.bp 350001 0 []) :: (4, .val (intsV hs)) :: (5, .own (intsV o1) 200082) :: (200082, .tok 3 1) :: (8, .val (.i (i : Int))) :: (10, .val (.i (to : Int))) :: (11, .val (.i ((fr + e : Nat) : Int))) :: (12, .val (.i (r2.2 : Int))) :: cstF ⟨ns2, c2.vr, c2.ps⟩) ⟨rfl, rfl, rfl, rfl, rfl, rfl, rfl, rfl, rfl, ?_, rfl, rfl, ?_, rfl, rfl, trivial⟩) ?_
    · show _ = some (AV.sl 400001 0 ns2.length 5); rw [hl2]; rfl
    · show _ = some (AV.mrow 194 5 (ns2.map Nd.cv)); rw [hm2]; rfl
    refine aS (aR ?_)
    (refine nx (aM (gN rfl) rfl rfl rfl rfl rfl) rfl ?_)
    (refine nx (aNc (gN rfl) rfl rfl rfl rfl rfl) rfl ?_)
    (refine nx (aF (gN rfl) rfl rfl rfl rfl rfl rfl rfl rfl rfl) rfl ?_)
    (refine nx (aLf (gN rfl) rfl rfl rfl rfl rfl rfl rfl rfl rfl rfl rfl rfl rfl) rfl ?_)
    (refine nx (aM (gN rfl) rfl rfl rfl rfl rfl) rfl ?_)
    (refine nx (aIm (k := r2.2) (gN rfl) rfl rfl rfl rfl rfl rfl rfl rfl rfl (by first | rfl | omega | (simp only [List.length_set, List.length_map, List.length_append, List.length_cons, List.length_nil] <;> omega) | (simp <;> omega))) rfl ?_)
    (refine nx (a_fieldM (gN rfl) rfl rfl rfl rfl rfl rfl rfl rfl rfl) rfl ?_)
    (refine nx (a_loadM (gN rfl) rfl rfl rfl rfl rfl rfl rfl rfl (hy2') rfl (by first | rfl | omega | (simp only [List.length_set, List.length_map, List.length_append, List.length_cons, List.length_nil] <;> omega) | (simp <;> omega)) rfl rfl) rfl ?_)
    (refine nx (a_eql (gN rfl) rfl rfl rfl rfl rfl rfl) rfl ?_)
    show AWp _ _ _ _ _ _ _
    refine AWp.wk (wk_sub (s' := (0, AV.bp 350001 0 []) :: (4, .val (intsV hs)) :: (5, .own (intsV o1) 200082) :: (200082, .tok 3 1) :: (8, .val (.i (i : Int))) :: (10, .val (.i (to : Int))) :: (11, .val (.i ((fr + e : Nat) : Int))) :: (12, .val (.i (r2.2 : Int))) :: (78, .val (.b (decide (y.us - 1 = 0)))) :: cstF ⟨ns2, c2.vr, c2.ps⟩) ⟨rfl, rfl, rfl, rfl, rfl, rfl, rfl, rfl, rfl, rfl, rfl, rfl, rfl, rfl, rfl, rfl, trivial⟩) ?_
    refine aC rfl (fun h0 => ?_) (fun h0 => ?_)
    · have h0 : y.us - 1 = 0 := by simpa using h0
      rw [if_pos h0] at hd1
      refine aR ?_
      (refine nx (aM (gN rfl) rfl rfl rfl rfl rfl) rfl ?_)
      (refine nx (aM (gN rfl) rfl rfl rfl rfl rfl) rfl ?_)
      (refine nx (a_bslice (gN rfl) rfl rfl rfl rfl rfl rfl rfl rfl rfl rfl rfl rfl rfl) rfl ?_)
      (refine nx (a_app (gN rfl) rfl rfl rfl rfl rfl rfl rfl rfl rfl rfl rfl rfl rfl rfl rfl (by first | assumption | exact sZ rfl | exact Tm.size_all _ | exact Bd.size_all _ | exact ints_size _ | exact bys_size _ | exact Lt.size_all _) (by first | assumption | exact sZ rfl | exact Tm.size_all _ | exact Bd.size_all _ | exact ints_size _ | exact bys_size _ | exact Lt.size_all _) (by first | omega | (simp only [List.length_map, List.length_append, List.length_cons, List.length_nil] <;> omega) | (simp <;> omega))) (by kernel_rfl) ?_)
      (refine nx (aA (gN rfl) rfl rfl rfl rfl rfl) rfl ?_)
      show AWp _ _ _ _ _ _ _
      refine aR ?_
      (refine nx (aM (gN rfl) rfl rfl rfl rfl rfl) rfl ?_)
      (refine nx (a_add (gN rfl) rfl rfl rfl rfl rfl rfl (by first | omega | (simp only [List.length_map, List.length_append, List.length_cons, List.length_nil] <;> omega) | (simp <;> omega))) rfl ?_)
      (refine nx (aA (gN rfl) rfl rfl rfl rfl rfl) rfl ?_)
      refine ⟨m, (0, AV.bp 350001 0 []) :: (4, .val (intsV hs)) :: (5, .own (intsV (o1 ++ [r2.2])) 200082) :: (200082, .tok 3 1) :: (8, .val (.i (i : Int))) :: (10, .val (.i (to : Int))) :: (11, .val (.i ((fr + (e + 1) : Nat) : Int))) :: cstF ⟨ns2, c2.vr, c2.ps⟩, by omega, ⟨e + 1, ns2, o1 ++ [r2.2], by omega, by rw [← Nat.add_assoc]; exact hd1, hF5, by omega, hb5.mono (by omega), fun h hm => by
        rcases List.mem_append.1 hm with hm | hm
        · exact ho3 h hm
        · rw [List.mem_singleton] at hm; omega, by rw [List.length_append]; omega, rfl⟩, (wk_sub (s' := (0, AV.bp 350001 0 []) :: (4, .val (intsV hs)) :: (5, .own (intsV (o1 ++ [r2.2])) 300082) :: (300082, .tok 3 1) :: (8, .val (.i (i : Int))) :: (10, .val (.i (to : Int))) :: (11, .val (.i ((fr + (e + 1) : Nat) : Int))) :: cstF ⟨ns2, c2.vr, c2.ps⟩) ⟨rfl, rfl, ?_, rfl, rfl, rfl, rfl, rfl, rfl, rfl, rfl, rfl, rfl, rfl, trivial⟩).trans (wk_ren 300082 200082 rfl rfl (by kernel_rfl) (by kernel_rfl))⟩
      show _ = some (AV.own (.lst ((o1 ++ [r2.2]).map fun n : Nat => CV.i (n : Int))) 300082)
      rw [List.map_append]; rfl
    · have h0 : ¬ y.us - 1 = 0 := by simpa using h0
      rw [if_neg h0] at hd1
      refine aK ?_
      show AWp _ _ _ _ _ _ _
      refine aR ?_
      (refine nx (aM (gN rfl) rfl rfl rfl rfl rfl) rfl ?_)
      (refine nx (a_add (gN rfl) rfl rfl rfl rfl rfl rfl (by first | omega | (simp only [List.length_map, List.length_append, List.length_cons, List.length_nil] <;> omega) | (simp <;> omega))) rfl ?_)
      (refine nx (aA (gN rfl) rfl rfl rfl rfl rfl) rfl ?_)
      exact ⟨m, (0, AV.bp 350001 0 []) :: (4, .val (intsV hs)) :: (5, .own (intsV o1) 200082) :: (200082, .tok 3 1) :: (8, .val (.i (i : Int))) :: (10, .val (.i (to : Int))) :: (11, .val (.i ((fr + (e + 1) : Nat) : Int))) :: cstF ⟨ns2, c2.vr, c2.ps⟩, by omega, ⟨e + 1, ns2, o1, by omega, by rw [← Nat.add_assoc]; exact hd1, hF5, by omega, hb5.mono (by omega), ho3, hi3, rfl⟩, wk_sub ⟨rfl, rfl, rfl, rfl, rfl, rfl, rfl, rfl, rfl, rfl, rfl, rfl, rfl, rfl, trivial⟩⟩
end Go.Proofs.YteegmcfobgpemaaGreat
