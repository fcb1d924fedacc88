/-
  PsTerm PsRead4 PsLit PsMean ClLen SbSort TmAlive TmAb6 SbClone ClTaut PsSz PsMean2
-/
import Derived.Test.YtglbohajmccehaaDoorMg3
import Derived.Test.YtglbohajmccehaaDoorMg2
-- @STR@
namespace Go.Proofs.YtglbohajmccehaaDoor
open Go.RowKit
set_option linter.unusedVariables false
set_option linter.unusedSimpArgs false
set_option maxRecDepth 100000

def Ph.ok : Ph → Prop
  | ⟨n, ps⟩ => (n ≠ [] ∧ n.length ≤ 1000000 ∧ ps.length ≤ 1000000) ∧ ∀ q ∈ ps, q.ok
theorem Ph.ok_iff (p : Ph) : p.ok ↔ (p.name ≠ [] ∧ p.name.length ≤ 1000000 ∧ p.parts.length ≤ 1000000) ∧ ∀ q ∈ p.parts, q.ok := by cases p; rw [Ph.ok]
def Ph.sz : Ph → Nat
  | ⟨n, ps⟩ => 1 + (ps.map Ph.sz).sum
theorem Ph.sz_eq (p : Ph) : p.sz = 1 + (p.parts.map Ph.sz).sum := by cases p; rw [Ph.sz]
def StepOk (st st' : Nm) (k : Nat) : Prop := st'.ok ∧ st'.vr.length ≤ st.vr.length + k
theorem fold_ok {f : Nm → Ph → Option (Tm × Bool × Nm)} (hf : ∀ st p r, st.ok → p.ok → st.vr.length + p.sz ≤ 1000000 → f st p = some r → StepOk st r.2.2 p.sz) : ∀ (ps : List Ph) (st : Nm) (acc : List Tm) (r : List Tm × Bool × Nm), st.ok → (∀ p ∈ ps, p.ok) → st.vr.length + (ps.map Ph.sz).sum ≤ 1000000 → foldP f st ps acc = some r → StepOk st r.2.2 (ps.map Ph.sz).sum
  | [], st, acc, r, h, _, _, e => by
    simp only [foldP, Option.some.injEq] at e
    subst e
    exact ⟨h, Nat.le_add_right _ _⟩
  | p :: ps, st, acc, r, h, hp, hl, e => by
    rw [foldP] at e
    rw [List.map_cons, List.sum_cons] at hl ⊢
    cases hx : f st p with
    | none => rw [hx] at e; cases e
    | some q =>
      rw [hx] at e
      simp only at e
      have h1 := hf st p q h (hp p (by simp)) (by omega) hx
      unfold StepOk at h1 ⊢
      split at e
      · have h2 := fold_ok hf ps q.2.2 _ r h1.1 (fun p hm => hp p (List.mem_cons_of_mem _ hm)) (by omega) e
        unfold StepOk at h2
        exact ⟨h2.1, by omega⟩
      · cases e
        exact ⟨h1.1, by show q.2.2.vr.length ≤ _; omega⟩
theorem sym_ok {f : Nm → Ph → Option (Tm × Bool × Nm)} (hf : ∀ st p r, st.ok → p.ok → st.vr.length + p.sz ≤ 1000000 → f st p = some r → StepOk st r.2.2 p.sz) {st : Nm} {p : Ph} {pred : Bool} {r : Tm × Bool × Nm} (h : st.ok) (hp : p.ok) (hl : st.vr.length + p.sz ≤ 1000000) (e : symF f st p pred = some r) : StepOk st r.2.2 p.sz := by
  obtain ⟨⟨h1, h2, h3⟩, h4⟩ := (Ph.ok_iff p).1 hp
  have hn := numF_ok h (k := ⟨p.name, p.parts.length, pred⟩) ⟨h2, h3⟩
  have hv := numF_vr st ⟨p.name, p.parts.length, pred⟩
  have hsz := p.sz_eq
  unfold symF at e
  split at e
  · split at e
    · cases e
    · rename_i q hq
      have h5 := fold_ok hf p.parts _ [] q hn.1 h4 (by rw [hv]; omega) hq
      unfold StepOk at h5 ⊢
      rw [hv] at h5
      split at e <;> cases e <;> exact ⟨h5.1, by show q.2.2.vr.length ≤ _; omega⟩
  · cases e
    exact ⟨hn.1, by rw [hv]; omega⟩
theorem tmF_ok : ∀ (n : Nat) (st : Nm) (p : Ph) (r : Tm × Bool × Nm), st.ok → p.ok → st.vr.length + p.sz ≤ 1000000 → tmF n st p = some r → StepOk st r.2.2 p.sz
  | 0, _, _, _, _, _, _, e => by simp [tmF] at e
  | n + 1, st, p, r, h, hp, hl, e => by
    obtain ⟨⟨h1, h2, h3⟩, h4⟩ := (Ph.ok_iff p).1 hp
    have hsz := p.sz_eq
    rw [tmF] at e
    split at e
    · cases e
      have := varF_ok h h2 (by omega)
      exact ⟨this.1, by show (varF st p.name).2.vr.length ≤ _; omega⟩
    · exact sym_ok (tmF_ok n) h hp hl e
def TmC (n : Nat) : Prop := ∀ (st : Nm) (p : Ph) (r : Tm × Bool × Nm), st.ok → p.ok → st.vr.length + p.sz ≤ 1000000 → tmF n st p = some r → AFunO Tryd.prog 42 (nmS st) [.bp 350001 0 [], .val p.cw] (.tup [r.1.cw, .b r.2.1]) (nmS r.2.2)
theorem sum_drop {ps : List Ph} {k : Nat} {p : Ph} (h : ps[k]? = some p) : ((ps.drop k).map Ph.sz).sum = p.sz + ((ps.drop (k + 1)).map Ph.sz).sum := by
  obtain ⟨hk, e⟩ := List.getElem?_eq_some_iff.1 h
  rw [List.drop_eq_getElem_cons hk, List.map_cons, List.sum_cons, e]
-- 
set_option maxHeartbeats 4000000 in
theorem sym_of (n : Nat) (hT : TmC n) (st : Nm) (p : Ph) (pred : Bool) (r : Tm × Bool × Nm) (h : st.ok) (hp : p.ok) (hl : st.vr.length + p.sz ≤ 1000000) (hr : symF (tmF n) st p pred = some r) : AFunO Tryd.prog 41 (nmS st) [.bp 350001 0 [], .val p.cw, .val (.b pred)] (.tup [r.1.cw, .b r.2.1]) (nmS r.2.2) := by
  obtain ⟨⟨h1, h2, h3⟩, h4⟩ := (Ph.ok_iff p).1 hp
  have hno := numF_ok h (k := ⟨p.name, p.parts.length, pred⟩) ⟨h2, h3⟩
  have hv := numF_vr st ⟨p.name, p.parts.length, pred⟩
  have hsz := p.sz_eq
  have hnum := num_abs st ⟨p.name, p.parts.length, pred⟩ h ⟨h2, h3⟩
  have hlm : (p.parts.map Ph.cv).length = p.parts.length := List.length_map ..
  simp only at hnum
  unfold symF at hr
  generalize hN : numF st ⟨p.name, p.parts.length, pred⟩ = N at *
  obtain ⟨i, ok, st1⟩ := N
  simp only at hno hv hnum hr
  have hnum : AFunO Tryd.prog 52 (nmS st) [.bp 350001 0 [], .val (.row [sv p.name, .i ((p.parts.map Ph.cv).length : Int), .b pred])] (.tup [.i (i : Int), .b ok]) (nmS st1) := by rw [hlm]; exact hnum
  have hpz := Ph.size_all p.parts
  refine afunO_of Tryd.func41 Tryd.ntmps41 rfl rfl rfl rfl rfl rfl ?_
  intro w U hU
  refine aS (aR ?_)
  (refine nx (a_box (gN rfl) rfl rfl rfl rfl rfl) (by kernel_rfl) ?_)
  (refine nx (a_alloc (gN rfl) rfl rfl rfl rfl rfl rfl rfl rfl rfl rfl) (by kernel_rfl) ?_)
  (refine nx (aA (gN rfl) rfl rfl rfl rfl rfl) rfl ?_)
  show AWp _ _ _ _ _ _ _
  refine aS (aR ?_)
  (refine nx (aM (gN rfl) rfl rfl rfl rfl rfl) rfl ?_)
  (refine nx (aF (gN rfl) rfl rfl rfl rfl rfl rfl rfl rfl rfl) rfl ?_)
  (refine nx (aLb (gN rfl) rfl rfl rfl rfl rfl rfl rfl rfl rfl rfl rfl rfl) rfl ?_)
  (refine nx (aF (gN rfl) rfl rfl rfl rfl rfl rfl rfl rfl rfl) rfl ?_)
  (refine nx (aLb (gN rfl) rfl rfl rfl rfl rfl rfl rfl rfl rfl rfl rfl rfl) rfl ?_)
  (refine nx (a_len (gN rfl) rfl rfl rfl rfl rfl rfl rfl) rfl ?_)
  (refine nx (aM (gN rfl) rfl rfl rfl rfl rfl) rfl ?_)
  (refine nx (a_build (gN rfl) rfl rfl rfl rfl rfl rfl rfl rfl rfl rfl rfl) rfl ?_)
  (refine nx (a_callO (gN rfl) rfl rfl rfl rfl rfl (hnum) (by repeat (first | exact trivial | refine ⟨rfl, ?_⟩)) (by first | rfl | kernel_rfl) (by first | rfl | kernel_rfl) (by first | rfl | kernel_rfl) (by first | rfl | kernel_rfl) (hnb_of (by first | rfl | kernel_rfl))) rfl ?_)
  (refine nx (aM (gN rfl) rfl rfl rfl rfl rfl) rfl ?_)
  (refine nx (aX (gN rfl) rfl rfl rfl rfl rfl rfl) rfl ?_)
  (refine nx (aX (gN rfl) rfl rfl rfl rfl rfl rfl) rfl ?_)
  (refine nx (aA (gN rfl) rfl rfl rfl rfl rfl) rfl ?_)
  (refine nx (aA (gN rfl) rfl rfl rfl rfl rfl) rfl ?_)
  show AWp _ _ _ _ _ _ _
  refine AWp.wk (wk_sub (s' := (0, .bp 350001 0 []) :: (4, .bp 4 0 []) :: (100004, .bx p.cw) :: (6, .bp 6 0 []) :: (100006, ⟨5, .row [.i 0, .lst []], 1, 0, [1]⟩) :: (8, .val (.i (i : Int))) :: (9, .val (.b ok)) :: nmS st1) ⟨rfl, rfl, rfl, rfl, rfl, rfl, rfl, rfl, rfl, rfl, rfl, rfl, rfl, rfl, rfl, rfl, rfl, rfl, trivial⟩) ?_
  cases ok with
  | false =>
    simp only [Bool.false_eq_true, if_false, Option.some.injEq] at hr
    subst hr
    refine aS (aS (aR ?_))
    (refine nx (aM (gN rfl) rfl rfl rfl rfl rfl) rfl ?_)
    (refine nx (a_not (gN rfl) rfl rfl rfl rfl rfl) rfl ?_)
    show AWp _ _ _ _ _ _ _
    refine aC rfl (fun hc => ?_) (fun hc => by cases hc)
    refine aS (aR ?_)
    (refine nx (a_build (gN rfl) rfl rfl rfl rfl rfl rfl rfl rfl rfl rfl rfl) rfl ?_)
    (refine nx (aSt (gN rfl) rfl rfl rfl rfl rfl rfl rfl rfl rfl rfl) rfl ?_)
    (refine nx (aA (gN rfl) rfl rfl rfl rfl rfl) rfl ?_)
    show AWp _ _ _ _ _ _ _
    exact aT ⟨.inr rfl, _, Wk.refl _, rfl, rfl, rfl, rfl, rfl, rfl, rfl, rfl, rfl, rfl, rfl, rfl, trivial⟩
  | true =>
  simp only [if_true] at hr
  cases hq : foldP (tmF n) st1 p.parts [] with
  | none => rw [hq] at hr; cases hr
  | some q =>
  rw [hq] at hr
  simp only at hr
  refine aS (aS (aR ?_))
  (refine nx (aM (gN rfl) rfl rfl rfl rfl rfl) rfl ?_)
  (refine nx (a_not (gN rfl) rfl rfl rfl rfl rfl) rfl ?_)
  show AWp _ _ _ _ _ _ _
  refine aC rfl (fun hc => by cases hc) (fun hc => aK ?_)
  show AWp _ _ _ _ _ _ _
  refine aS (aR ?_)
  (refine nx (aM (gN rfl) rfl rfl rfl rfl rfl) rfl ?_)
  (refine nx (a_build (gN rfl) rfl rfl rfl rfl rfl rfl rfl rfl rfl rfl rfl) rfl ?_)
  (refine nx (a_alloc (gN rfl) rfl rfl rfl rfl rfl rfl rfl rfl rfl rfl) (by kernel_rfl) ?_)
  (refine nx (aSt (gN rfl) rfl rfl rfl rfl rfl rfl rfl rfl rfl rfl) rfl ?_)
  show AWp _ _ _ _ _ _ _
  refine aS (aS (aR ?_))
  (refine nx (aF (gN rfl) rfl rfl rfl rfl rfl rfl rfl rfl rfl) rfl ?_)
  (refine nx (aLb (gN rfl) rfl rfl rfl rfl rfl rfl rfl rfl rfl rfl rfl rfl) rfl ?_)
  (refine nx (a_len (gN rfl) rfl rfl rfl rfl rfl rfl rfl) rfl ?_)
  (refine nx (aM (gN rfl) rfl rfl rfl rfl rfl) rfl ?_)
  show AWp _ _ _ _ _ _ _
  let sS : Nat → List Tm → Nm → AS := fun k acc s => (0, .bp 350001 0 []) :: (6, .bp 6 0 []) :: (100006, ⟨5, .row [.i 0, .lst []], 1, 0, [1]⟩) :: (10, .bp 10 0 []) :: (100010, ⟨5, .row [.i (i : Int), .lst (acc.map Tm.cv)], 200052, 0, [1]⟩) :: (200052, .tok 48 2) :: (33, .val (.lst (p.parts.map Ph.cv))) :: (34, .val (.i (p.parts.map Ph.cv).length)) :: (35, .val (.i (k : Int))) :: nmS s
  refine aB (awp_loop (fun m s => ∃ k acc st', m = p.parts.length - k ∧ k ≤ p.parts.length ∧ acc.length = k ∧ foldP (tmF n) st' (p.parts.drop k) acc = some q ∧ st'.ok ∧ st'.vr.length + ((p.parts.drop k).map Ph.sz).sum ≤ 1000000 ∧ s = sS k acc st') (n := p.parts.length) (s' := sS 0 [] st1) ((wk_nil 100010 200052 48 2 rfl rfl rfl rfl rfl (by kernel_rfl) (by kernel_rfl)).trans (wk_sub ⟨rfl, rfl, rfl, rfl, rfl, rfl, rfl, rfl, rfl, rfl, rfl, rfl, rfl, rfl, rfl, rfl, rfl, rfl, rfl, rfl, trivial⟩)) ⟨0, [], st1, rfl, Nat.zero_le _, rfl, hq, hno.1, by rw [List.drop_zero, hv]; omega, rfl⟩ ?_)
  rintro m s ⟨k, acc, st', rfl, hk, hal, hf, ho, hsl, rfl⟩
  refine aS (aR ?_)
  (refine nx (a_lss (gN rfl) rfl rfl rfl rfl rfl rfl) rfl ?_)
  show AWp _ _ _ _ _ _ _
  refine aS (aC rfl (fun hlt => aK ?_) (fun hlt => aE ?_))
  · have hkl : k < p.parts.length := by simpa using hlt
    obtain ⟨x, hx⟩ : ∃ x, p.parts[k]? = some x := ⟨p.parts[k], List.getElem?_eq_getElem hkl⟩
    have hx' := Ph.map_at hx
    have hxo := h4 x (List.mem_of_getElem? hx)
    rw [sum_drop hx] at hsl
    rw [drop_at hx, foldP] at hf
    cases hx2 : tmF n st' x with
    | none => rw [hx2] at hf; cases hf
    | some u =>
    rw [hx2] at hf
    simp only at hf
    have hc := hT st' x u ho hxo (by omega) hx2
    have hso := tmF_ok n st' x u ho hxo (by omega) hx2
    unfold StepOk at hso
    show AWp _ _ _ _ _ _ _
    refine aS (aB (aS (aR ?_)))
    (refine nx (a_index (j := k) (gN rfl) rfl rfl rfl rfl rfl rfl rfl rfl rfl (hx') rfl (hpz)) rfl ?_)
    (refine nx (a_load_ad (gN rfl) rfl rfl rfl rfl rfl rfl rfl rfl rfl) rfl ?_)
    (refine nx (a_alloc (gN rfl) rfl rfl rfl rfl rfl rfl rfl rfl rfl rfl) (by kernel_rfl) ?_)
    (refine nx (aSt (gN rfl) rfl rfl rfl rfl rfl rfl rfl rfl rfl rfl) rfl ?_)
    show AWp _ _ _ _ _ _ _
    refine aS (aR ?_)
    (refine nx (aM (gN rfl) rfl rfl rfl rfl rfl) rfl ?_)
    (refine nx (aL (gN rfl) rfl rfl rfl rfl rfl rfl rfl rfl rfl rfl rfl rfl) rfl ?_)
    (refine nx (a_callO (gN rfl) rfl rfl rfl rfl rfl (hc) (by repeat (first | exact trivial | refine ⟨rfl, ?_⟩)) (by first | rfl | kernel_rfl) (by first | rfl | kernel_rfl) (by first | rfl | kernel_rfl) (by first | rfl | kernel_rfl) (hnb_of (by first | rfl | kernel_rfl))) rfl ?_)
    (refine nx (aM (gN rfl) rfl rfl rfl rfl rfl) rfl ?_)
    (refine nx (aX (gN rfl) rfl rfl rfl rfl rfl rfl) rfl ?_)
    (refine nx (aX (gN rfl) rfl rfl rfl rfl rfl rfl) rfl ?_)
    (refine nx (a_alloc (gN rfl) rfl rfl rfl rfl rfl rfl rfl rfl rfl rfl) (by kernel_rfl) ?_)
    (refine nx (aSt (gN rfl) rfl rfl rfl rfl rfl rfl rfl rfl rfl rfl) rfl ?_)
    (refine nx (aA (gN rfl) rfl rfl rfl rfl rfl) rfl ?_)
    show AWp _ _ _ _ _ _ _
    refine AWp.wk (wk_sub (s' := (13, .bp 13 0 []) :: (100013, .bx u.1.cw) :: (14, .val (.b u.2.1)) :: sS k acc u.2.2) ⟨rfl, rfl, rfl, rfl, rfl, rfl, rfl, rfl, rfl, rfl, rfl, rfl, rfl, rfl, rfl, rfl, rfl, rfl, rfl, rfl, rfl, rfl, rfl, trivial⟩) ?_
    cases hok : u.2.1 with
    | false =>
      rw [hok] at hf
      simp only [Bool.false_eq_true, if_false, Option.some.injEq] at hf
      subst hf
      simp only [Bool.false_eq_true, if_false, Option.some.injEq] at hr
      subst hr
      refine aS (aS (aR ?_))
      (refine nx (aM (gN rfl) rfl rfl rfl rfl rfl) rfl ?_)
      (refine nx (a_not (gN rfl) rfl rfl rfl rfl rfl) rfl ?_)
      show AWp _ _ _ _ _ _ _
      refine aC rfl (fun hc => ?_) (fun hc => by cases hc)
      refine aS (aR ?_)
      (refine nx (a_build (gN rfl) rfl rfl rfl rfl rfl rfl rfl rfl rfl rfl rfl) rfl ?_)
      (refine nx (aSt (gN rfl) rfl rfl rfl rfl rfl rfl rfl rfl rfl rfl) rfl ?_)
      (refine nx (aA (gN rfl) rfl rfl rfl rfl rfl) rfl ?_)
      show AWp _ _ _ _ _ _ _
      exact aT ⟨.inr rfl, _, Wk.refl _, rfl, rfl, rfl, rfl, rfl, rfl, rfl, rfl, rfl, rfl, rfl, rfl, trivial⟩
    | true =>
      rw [hok] at hf
      simp only [if_true] at hf
      have hsz2 := Tm.size_all acc
      have hal2 : (acc.map Tm.cv).length ≤ 1000000 := by rw [List.length_map]; omega
      have hap : (acc ++ [u.1]).map Tm.cv = acc.map Tm.cv ++ [u.1.cw] := by rw [List.map_append, List.map_singleton, Tm.cv_eq]
      refine aS (aS (aR ?_))
      (refine nx (aM (gN rfl) rfl rfl rfl rfl rfl) rfl ?_)
      (refine nx (a_not (gN rfl) rfl rfl rfl rfl rfl) rfl ?_)
      show AWp _ _ _ _ _ _ _
      refine aC rfl (fun hc => by cases hc) (fun hc => aK ?_)
      show AWp _ _ _ _ _ _ _
      refine aR ?_
      (refine nx (aF (gN rfl) rfl rfl rfl rfl rfl rfl rfl rfl rfl) rfl ?_)
      (refine nx (a_load_tok (gN rfl) rfl rfl rfl rfl rfl rfl rfl rfl rfl rfl rfl rfl rfl) rfl ?_)
      (refine nx (aL (gN rfl) rfl rfl rfl rfl rfl rfl rfl rfl rfl rfl rfl rfl) rfl ?_)
      (refine nx (a_bslice (gN rfl) rfl rfl rfl rfl rfl rfl rfl rfl rfl rfl rfl rfl rfl) rfl ?_)
      (refine nx (a_app (gN rfl) rfl rfl rfl rfl rfl rfl rfl rfl rfl rfl rfl rfl rfl rfl rfl (by first | assumption | exact sZ rfl | exact Tm.size_all _ | exact Bd.size_all _ | exact ints_size _ | exact bys_size _ | exact Lt.size_all _) (by first | assumption | exact sZ rfl | exact Tm.size_all _ | exact Bd.size_all _ | exact ints_size _ | exact bys_size _ | exact Lt.size_all _) (by first | omega | (simp only [List.length_map, List.length_append, List.length_cons, List.length_nil] <;> omega) | (simp <;> omega))) (by kernel_rfl) ?_)
      (refine nx (aF (gN rfl) rfl rfl rfl rfl rfl rfl rfl rfl rfl) rfl ?_)
      (refine nx (a_store (gN rfl) rfl rfl rfl rfl rfl rfl rfl rfl rfl rfl) rfl ?_)
      show AWp _ _ _ _ _ _ _
      refine aR ?_
      (refine nx (a_add (gN rfl) rfl rfl rfl rfl rfl rfl (by first | omega | (simp only [List.length_map, List.length_append, List.length_cons, List.length_nil] <;> omega) | (simp <;> omega))) rfl ?_)
      (refine nx (aM (gN rfl) rfl rfl rfl rfl rfl) rfl ?_)
      refine ⟨p.parts.length - (k + 1), sS (k + 1) (acc ++ [u.1]) u.2.2, by omega, ⟨k + 1, acc ++ [u.1], u.2.2, rfl, by omega, by rw [List.length_append, hal]; rfl, hf, hso.1, by omega, rfl⟩, (wk_sub (s' := (0, .bp 350001 0 []) :: (6, .bp 6 0 []) :: (100006, ⟨5, .row [.i 0, .lst []], 1, 0, [1]⟩) :: (10, .bp 10 0 []) :: (100010, ⟨5, .row [.i (i : Int), .lst ((acc ++ [u.1]).map Tm.cv)], 300052, 0, [1]⟩) :: (300052, .tok 48 2) :: (33, .val (.lst (p.parts.map Ph.cv))) :: (34, .val (.i (p.parts.map Ph.cv).length)) :: (35, .val (.i ((k + 1 : Nat) : Int))) :: nmS u.2.2) ⟨rfl, rfl, rfl, rfl, by rw [hap]; rfl, rfl, rfl, rfl, rfl, rfl, rfl, rfl, rfl, rfl, rfl, rfl, rfl, rfl, rfl, rfl, trivial⟩).trans (wk_ren 300052 200052 rfl rfl (by kernel_rfl) (by kernel_rfl))⟩
  · have hkl : k = p.parts.length := by
      have : ¬ k < p.parts.length := by simpa using hlt
      omega
    subst hkl
    rw [List.drop_length] at hf
    simp only [foldP, Option.some.injEq] at hf
    subst hf
    simp only [if_true, Option.some.injEq] at hr
    subst hr
    show AWp _ _ _ _ _ _ _
    refine aS (aR ?_)
    (refine nx (aL (gN rfl) rfl rfl rfl rfl rfl rfl rfl rfl rfl rfl rfl rfl) rfl ?_)
    (refine nx (aSt (gN rfl) rfl rfl rfl rfl rfl rfl rfl rfl rfl rfl) rfl ?_)
    (refine nx (aA (gN rfl) rfl rfl rfl rfl rfl) rfl ?_)
    show AWp _ _ _ _ _ _ _
    exact aT ⟨.inr rfl, _, Wk.refl _, rfl, rfl, rfl, rfl, rfl, rfl, rfl, rfl, rfl, rfl, rfl, rfl, trivial⟩
-- 
set_option maxHeartbeats 1000000 in
theorem tm_of (n : Nat) (hT : TmC n) : TmC (n + 1) := by
  intro st p r h hp hl hr
  obtain ⟨⟨h1, h2, h3⟩, h4⟩ := (Ph.ok_iff p).1 hp
  have hsz := p.sz_eq
  rw [tmF] at hr
  refine afunO_of Tryd.func42 Tryd.ntmps42 rfl rfl rfl rfl rfl rfl ?_
  intro w U hU
  have c2 := isGr_abs w p.name h1
  refine aS (aR ?_)
  (refine nx (a_box (gN rfl) rfl rfl rfl rfl rfl) (by kernel_rfl) ?_)
  (refine nx (a_alloc (gN rfl) rfl rfl rfl rfl rfl rfl rfl rfl rfl rfl) (by kernel_rfl) ?_)
  (refine nx (aA (gN rfl) rfl rfl rfl rfl rfl) rfl ?_)
  show AWp _ _ _ _ _ _ _
  cases hg : isGrL p.name with
  | true =>
    rw [hg] at hr c2
    simp only [if_true, Option.some.injEq] at hr
    subst hr
    have hva := var_abs st p.name h h2 (by omega)
    have hvo := varF_ok h h2 (by omega)
    refine aS (aS (aR ?_))
    (refine nx (aF (gN rfl) rfl rfl rfl rfl rfl rfl rfl rfl rfl) rfl ?_)
    (refine nx (aLb (gN rfl) rfl rfl rfl rfl rfl rfl rfl rfl rfl rfl rfl rfl) rfl ?_)
    (refine nx (a_call (gN rfl) rfl rfl rfl rfl rfl (c2)) rfl ?_)
    show AWp _ _ _ _ _ _ _
    refine aC rfl (fun hc => ?_) (fun hc => by cases hc)
    refine aS (aR ?_)
    (refine nx (aM (gN rfl) rfl rfl rfl rfl rfl) rfl ?_)
    (refine nx (aF (gN rfl) rfl rfl rfl rfl rfl rfl rfl rfl rfl) rfl ?_)
    (refine nx (aLb (gN rfl) rfl rfl rfl rfl rfl rfl rfl rfl rfl rfl rfl rfl) rfl ?_)
    (refine nx (a_callO (gN rfl) rfl rfl rfl rfl rfl (hva) (by repeat (first | exact trivial | refine ⟨rfl, ?_⟩)) (by first | rfl | kernel_rfl) (by first | rfl | kernel_rfl) (by first | rfl | kernel_rfl) (by first | rfl | kernel_rfl) (hnb_of (by first | rfl | kernel_rfl))) rfl ?_)
    (refine nx (a_sub (gN rfl) rfl rfl rfl rfl rfl rfl (by first | omega | (simp only [List.length_map, List.length_append, List.length_cons, List.length_nil] <;> omega) | (simp <;> omega))) rfl ?_)
    (refine nx (a_build (gN rfl) rfl rfl rfl rfl rfl rfl rfl rfl rfl rfl rfl) rfl ?_)
    (refine nx (aSt (gN rfl) rfl rfl rfl rfl rfl rfl rfl rfl rfl rfl) rfl ?_)
    (refine nx (aA (gN rfl) rfl rfl rfl rfl rfl) rfl ?_)
    show AWp _ _ _ _ _ _ _
    exact aT ⟨.inr rfl, _, Wk.refl _, rfl, rfl, rfl, rfl, rfl, rfl, rfl, rfl, rfl, rfl, rfl, rfl, trivial⟩
  | false =>
    rw [hg] at hr c2
    simp only [Bool.false_eq_true, if_false] at hr
    have hsy := sym_of n hT st p false r h hp hl hr
    refine aS (aS (aR ?_))
    (refine nx (aF (gN rfl) rfl rfl rfl rfl rfl rfl rfl rfl rfl) rfl ?_)
    (refine nx (aLb (gN rfl) rfl rfl rfl rfl rfl rfl rfl rfl rfl rfl rfl rfl) rfl ?_)
    (refine nx (a_call (gN rfl) rfl rfl rfl rfl rfl (c2)) rfl ?_)
    show AWp _ _ _ _ _ _ _
    refine aC rfl (fun hc => by cases hc) (fun hc => aK ?_)
    show AWp _ _ _ _ _ _ _
    refine aS (aR ?_)
    (refine nx (aM (gN rfl) rfl rfl rfl rfl rfl) rfl ?_)
    (refine nx (aL (gN rfl) rfl rfl rfl rfl rfl rfl rfl rfl rfl rfl rfl rfl) rfl ?_)
    (refine nx (a_callO (gN rfl) rfl rfl rfl rfl rfl (hsy) (by repeat (first | exact trivial | refine ⟨rfl, ?_⟩)) (by first | rfl | kernel_rfl) (by first | rfl | kernel_rfl) (by first | rfl | kernel_rfl) (by first | rfl | kernel_rfl) (hnb_of (by first | rfl | kernel_rfl))) rfl ?_)
    (refine nx (aX (gN rfl) rfl rfl rfl rfl rfl rfl) rfl ?_)
    (refine nx (aX (gN rfl) rfl rfl rfl rfl rfl rfl) rfl ?_)
    (refine nx (aSt (gN rfl) rfl rfl rfl rfl rfl rfl rfl rfl rfl rfl) rfl ?_)
    (refine nx (aA (gN rfl) rfl rfl rfl rfl rfl) rfl ?_)
    show AWp _ _ _ _ _ _ _
    exact aT ⟨.inr rfl, _, Wk.refl _, rfl, rfl, rfl, rfl, rfl, rfl, rfl, rfl, rfl, rfl, rfl, rfl, trivial⟩
theorem tm_abs (n : Nat) : TmC n := by
  induction n with
  | zero => intro st p r _ _ _ e; simp [tmF] at e
  | succ n ih => exact tm_of n ih
end Go.Proofs.YtglbohajmccehaaDoor

-- @STR@
namespace Go.Proofs.YtglbohajmccehaaDoor
open Go.RowKit
set_option linter.unusedVariables false
set_option linter.unusedSimpArgs false
set_option maxRecDepth 100000

theorem rdL_len {n : Nat} {t : Tkn} {r : Se × Bool × Tkn} (h : rdL n t = some r) : r.2.2.len ≤ t.len ∧ (r.2.1 = true → r.2.2.len < t.len) := by
  unfold rdL at h
  have l1 := takeT_len t [126]
  split at h
  · cases h
  · rename_i q hq
    obtain ⟨l2, l3⟩ := (rdX_len n 1 _).1 q hq
    have l4 := takeT_len q.2.2.2 [61]
    have l5 := takeT_len (takeT q.2.2.2 [61]).2 unlB
    split at h
    · rename_i hok
      have l3 := l3 hok
      split at h
      · split at h
        · cases h
        · rename_i q2 hq2
          have l6 := ((rdX_len n 1 _).1 q2 hq2).1
          cases h
          exact ⟨by show q2.2.2.2.len ≤ _; omega, fun _ => by show q2.2.2.2.len < _; omega⟩
      · split at h
        · split at h
          · cases h
          · rename_i q2 hq2
            have l6 := ((rdX_len n 1 _).1 q2 hq2).1
            cases h
            exact ⟨by show q2.2.2.2.len ≤ _; omega, fun _ => by show q2.2.2.2.len < _; omega⟩
        · cases h
          exact ⟨by show (takeT (takeT q.2.2.2 [61]).2 unlB).2.len ≤ _; omega, fun _ => by show (takeT (takeT q.2.2.2 [61]).2 unlB).2.len < _; omega⟩
    · cases h
      exact ⟨by show q.2.2.2.len ≤ _; omega, fun h => by cases h⟩
theorem rdLs_len {n : Nat} : ∀ {m : Nat} {t : Tkn} {acc : List Se} {r : List Se × Bool × Tkn}, rdLs n m t acc = some r → r.2.2.len ≤ t.len
  | 0, _, _, _, h => by simp [rdLs] at h
  | m + 1, t, acc, r, h => by
    rw [rdLs] at h
    split at h
    · cases h
    · rename_i q hq
      have l1 := (rdL_len hq).1
      have l2 := takeT_len q.2.2 [124]
      split at h
      · split at h
        · have := rdLs_len h; omega
        · cases h; show (takeT q.2.2 [124]).2.len ≤ _; omega
      · cases h; exact l1
theorem rdC_len {n : Nat} {t : Tkn} {r : List Se × Bool × Tkn} (h : rdC n t = some r) : r.2.2.len ≤ t.len := by
  unfold rdC at h
  have l1 := takeT_len t neverB
  split at h
  · cases h; exact l1
  · have := rdLs_len h; omega
-- 
set_option maxHeartbeats 2000000 in
theorem clause_abs (n : Nat) (t : Tkn) (r : List Se × Bool × Tkn) (ht : t.len ≤ 1000000) (hr : rdC n t = some r) : AFunO Tryd.prog 23 (tkS t) [.bp 350001 0 []] (.tup [.lst (r.1.map Se.cv), .b r.2.1]) (tkS r.2.2) := by
  unfold rdC at hr
  have ht1 := take_abs t neverB (rs_le ht)
  have l1 := takeT_len t neverB
  generalize takeT t neverB = A at *
  obtain ⟨nb, t1⟩ := A
  simp only at hr ht1 l1
  refine afunO_of Tryd.func23 Tryd.ntmps23 rfl rfl rfl rfl rfl rfl ?_
  intro w U hU
  refine aS (aR ?_)
  (refine nx (aA (gN rfl) rfl rfl rfl rfl rfl) rfl ?_)
  (refine nx (aA (gN rfl) rfl rfl rfl rfl rfl) rfl ?_)
  show AWp _ _ _ _ _ _ _
  cases nb with
  | true =>
    simp only [if_true, Option.some.injEq] at hr
    subst hr
    refine aS (aS (aR ?_))
    (refine nx (aM (gN rfl) rfl rfl rfl rfl rfl) rfl ?_)
    (refine nx (a_callO (gN rfl) rfl rfl rfl rfl rfl (ht1) (by repeat (first | exact trivial | refine ⟨rfl, ?_⟩)) (by first | rfl | kernel_rfl) (by first | rfl | kernel_rfl) (by first | rfl | kernel_rfl) (by first | rfl | kernel_rfl) (hnb_of (by first | rfl | kernel_rfl))) rfl ?_)
    show AWp _ _ _ _ _ _ _
    refine aC rfl (fun h => ?_) (fun h => by cases h)
    refine aS (aR ?_)
    (refine nx (aA (gN rfl) rfl rfl rfl rfl rfl) rfl ?_)
    (refine nx (aA (gN rfl) rfl rfl rfl rfl rfl) rfl ?_)
    show AWp _ _ _ _ _ _ _
    exact aT ⟨.inr rfl, _, Wk.refl _, rfl, rfl, rfl, rfl, trivial⟩
  | false =>
  simp only [Bool.false_eq_true, if_false] at hr
  refine aS (aS (aR ?_))
  (refine nx (aM (gN rfl) rfl rfl rfl rfl rfl) rfl ?_)
  (refine nx (a_callO (gN rfl) rfl rfl rfl rfl rfl (ht1) (by repeat (first | exact trivial | refine ⟨rfl, ?_⟩)) (by first | rfl | kernel_rfl) (by first | rfl | kernel_rfl) (by first | rfl | kernel_rfl) (by first | rfl | kernel_rfl) (hnb_of (by first | rfl | kernel_rfl))) rfl ?_)
  show AWp _ _ _ _ _ _ _
  refine aC rfl (fun h => by cases h) (fun h => aK ?_)
  show AWp _ _ _ _ _ _ _
  refine aS (aR ?_)
  (refine nx (aA (gN rfl) rfl rfl rfl rfl rfl) rfl ?_)
  show AWp _ _ _ _ _ _ _
  let st : List Se → Tkn → AS := fun acc t => (0, .bp 350001 0 []) :: (4, .own (.lst (acc.map Se.cv)) 200019) :: (200019, .tok 96 6) :: tkS t
  refine aB (awp_loop (fun m s => ∃ acc t', acc.length + t'.len ≤ 1000000 ∧ rdLs n m t' acc = some r ∧ s = st acc t') (n := n) (s' := st [] t1) ((wk_nil 4 200019 96 6 rfl rfl rfl rfl rfl (by kernel_rfl) (by kernel_rfl)).trans (wk_sub ⟨rfl, rfl, rfl, rfl, rfl, rfl, trivial⟩)) ⟨[], t1, by show 0 + t1.len ≤ _; omega, hr, rfl⟩ ?_)
  rintro m s ⟨acc, t', hl, hm, rfl⟩
  obtain ⟨m, rfl⟩ : ∃ k, m = k + 1 := by
    cases m with
    | zero => simp [rdLs] at hm
    | succ m => exact ⟨m, rfl⟩
  rw [rdLs] at hm
  cases hq : rdL n t' with
  | none => rw [hq] at hm; cases hm
  | some q =>
  rw [hq] at hm
  simp only at hm
  have hc := lit_abs n t' q (by omega) hq
  obtain ⟨l2, l3⟩ := rdL_len hq
  refine aB (aS (aR ?_))
  (refine nx (aM (gN rfl) rfl rfl rfl rfl rfl) rfl ?_)
  (refine nx (a_callO (gN rfl) rfl rfl rfl rfl rfl (hc) (by repeat (first | exact trivial | refine ⟨rfl, ?_⟩)) (by first | rfl | kernel_rfl) (by first | rfl | kernel_rfl) (by first | rfl | kernel_rfl) (by first | rfl | kernel_rfl) (hnb_of (by first | rfl | kernel_rfl))) rfl ?_)
  (refine nx (aM (gN rfl) rfl rfl rfl rfl rfl) rfl ?_)
  (refine nx (aX (gN rfl) rfl rfl rfl rfl rfl rfl) rfl ?_)
  (refine nx (aX (gN rfl) rfl rfl rfl rfl rfl rfl) rfl ?_)
  (refine nx (a_alloc (gN rfl) rfl rfl rfl rfl rfl rfl rfl rfl rfl rfl) (by kernel_rfl) ?_)
  (refine nx (aSt (gN rfl) rfl rfl rfl rfl rfl rfl rfl rfl rfl rfl) rfl ?_)
  (refine nx (aA (gN rfl) rfl rfl rfl rfl rfl) rfl ?_)
  show AWp _ _ _ _ _ _ _
  cases hok : q.2.1 with
  | false =>
    rw [hok] at hm
    simp only [Bool.false_eq_true, if_false, Option.some.injEq] at hm
    subst hm
    refine aS (aS (aR ?_))
    (refine nx (aM (gN rfl) rfl rfl rfl rfl rfl) rfl ?_)
    (refine nx (a_not (gN rfl) rfl rfl rfl rfl rfl) rfl ?_)
    show AWp _ _ _ _ _ _ _
    refine aC rfl (fun h => ?_) (fun h => by cases h)
    refine aS (aR ?_)
    (refine nx (aA (gN rfl) rfl rfl rfl rfl rfl) rfl ?_)
    (refine nx (aA (gN rfl) rfl rfl rfl rfl rfl) rfl ?_)
    show AWp _ _ _ _ _ _ _
    exact aT ⟨.inr rfl, _, Wk.refl _, rfl, rfl, rfl, rfl, trivial⟩
  | true =>
    rw [hok] at hm
    simp only [if_true] at hm
    have l3 := l3 hok
    have l4 := takeT_len q.2.2 [124]
    have htk := take_abs q.2.2 [124] (rs_le (by omega))
    have hsz := Se.size_all acc
    have hal : (acc.map Se.cv).length ≤ 1000000 := by rw [List.length_map]; omega
    have hap : (acc ++ [q.1]).map Se.cv = acc.map Se.cv ++ [q.1.cw] := by rw [List.map_append]; rfl
    refine aS (aS (aR ?_))
    (refine nx (aM (gN rfl) rfl rfl rfl rfl rfl) rfl ?_)
    (refine nx (a_not (gN rfl) rfl rfl rfl rfl rfl) rfl ?_)
    show AWp _ _ _ _ _ _ _
    refine aC rfl (fun h => by cases h) (fun h => aK ?_)
    show AWp _ _ _ _ _ _ _
    refine aS (aR ?_)
    (refine nx (aM (gN rfl) rfl rfl rfl rfl rfl) rfl ?_)
    (refine nx (aL (gN rfl) rfl rfl rfl rfl rfl rfl rfl rfl rfl rfl rfl rfl) rfl ?_)
    (refine nx (a_bslice (gN rfl) rfl rfl rfl rfl rfl rfl rfl rfl rfl rfl rfl rfl rfl) rfl ?_)
    (refine nx (a_app (gN rfl) rfl rfl rfl rfl rfl rfl rfl rfl rfl rfl rfl rfl rfl rfl rfl (by first | assumption | exact sZ rfl | exact Tm.size_all _ | exact Bd.size_all _ | exact ints_size _ | exact bys_size _ | exact Lt.size_all _) (by first | assumption | exact sZ rfl | exact Tm.size_all _ | exact Bd.size_all _ | exact ints_size _ | exact bys_size _ | exact Lt.size_all _) (by first | omega | (simp only [List.length_map, List.length_append, List.length_cons, List.length_nil] <;> omega) | (simp <;> omega))) (by kernel_rfl) ?_)
    (refine nx (aA (gN rfl) rfl rfl rfl rfl rfl) rfl ?_)
    show AWp _ _ _ _ _ _ _
    refine AWp.wk (wk_sub (s' := (0, .bp 350001 0 []) :: (4, .own (.lst ((acc ++ [q.1]).map Se.cv)) 300019) :: (300019, .tok 96 6) :: tkS q.2.2) ⟨rfl, by rw [hap]; rfl, rfl, rfl, rfl, rfl, trivial⟩) ?_
    cases hcm : (takeT q.2.2 [124]).1 with
    | true =>
      rw [hcm] at hm htk
      simp only [if_true] at hm
      refine aS (aR ?_)
      (refine nx (aM (gN rfl) rfl rfl rfl rfl rfl) rfl ?_)
      (refine nx (a_callO (gN rfl) rfl rfl rfl rfl rfl (htk) (by repeat (first | exact trivial | refine ⟨rfl, ?_⟩)) (by first | rfl | kernel_rfl) (by first | rfl | kernel_rfl) (by first | rfl | kernel_rfl) (by first | rfl | kernel_rfl) (hnb_of (by first | rfl | kernel_rfl))) rfl ?_)
      (refine nx (a_not (gN rfl) rfl rfl rfl rfl rfl) rfl ?_)
      show AWp _ _ _ _ _ _ _
      refine aC rfl (fun h => by cases h) (fun h => aK ?_)
      refine ⟨m, st (acc ++ [q.1]) (takeT q.2.2 [124]).2, by omega, ⟨acc ++ [q.1], _, by rw [List.length_append, List.length_singleton]; omega, hm, rfl⟩, (wk_sub (s' := (0, .bp 350001 0 []) :: (4, .own (.lst ((acc ++ [q.1]).map Se.cv)) 300019) :: (300019, .tok 96 6) :: tkS (takeT q.2.2 [124]).2) ⟨rfl, rfl, rfl, rfl, rfl, rfl, trivial⟩).trans (wk_ren 300019 200019 rfl rfl (by kernel_rfl) (by kernel_rfl))⟩
    | false =>
      rw [hcm] at hm htk
      simp only [Bool.false_eq_true, if_false, Option.some.injEq] at hm
      subst hm
      refine aS (aR ?_)
      (refine nx (aM (gN rfl) rfl rfl rfl rfl rfl) rfl ?_)
      (refine nx (a_callO (gN rfl) rfl rfl rfl rfl rfl (htk) (by repeat (first | exact trivial | refine ⟨rfl, ?_⟩)) (by first | rfl | kernel_rfl) (by first | rfl | kernel_rfl) (by first | rfl | kernel_rfl) (by first | rfl | kernel_rfl) (hnb_of (by first | rfl | kernel_rfl))) rfl ?_)
      (refine nx (a_not (gN rfl) rfl rfl rfl rfl rfl) rfl ?_)
      show AWp _ _ _ _ _ _ _
      refine aC rfl (fun h => ?_) (fun h => by cases h)
      refine aS (aR ?_)
      (refine nx (aM (gN rfl) rfl rfl rfl rfl rfl) rfl ?_)
      (refine nx (aA (gN rfl) rfl rfl rfl rfl rfl) rfl ?_)
      (refine nx (aA (gN rfl) rfl rfl rfl rfl rfl) rfl ?_)
      show AWp _ _ _ _ _ _ _
      exact aT ⟨.inr rfl, _, Wk.refl _, rfl, rfl, rfl, rfl, trivial⟩
-- 
theorem tokens_abs (src : By) (hs : src.length ≤ 1000000) : AFunO Tryd.prog 22 [] [.val (sv src)] (.bp 350001 0 []) (tkS (mvT src)) := by
  have hm := move_abs ⟨[], src⟩ hs
  refine afunO_of Tryd.func22 Tryd.ntmps22 rfl rfl rfl rfl rfl rfl ?_
  intro w U hU
  refine aS (aR ?_)
  (refine nx (aA (gN rfl) rfl rfl rfl rfl rfl) rfl ?_)
  show AWp _ _ _ _ _ _ _
  refine aS (aR ?_)
  (refine nx (aM (gN rfl) rfl rfl rfl rfl rfl) rfl ?_)
  (refine nx (a_build (gN rfl) rfl rfl rfl rfl rfl rfl rfl rfl rfl rfl rfl) rfl ?_)
  (refine nx (a_box9N 350001 (gN rfl) rfl rfl rfl rfl rfl rfl rfl rfl rfl (fun v h => by first | (rw [hW.1] at h; cases h) | (have h2 := hU _ v h; cases h2))) rfl ?_)
  (refine nx (aA (gN rfl) rfl rfl rfl rfl rfl) rfl ?_)
  show AWp _ _ _ _ _ _ _
  refine AWp.wk (wk_sub (s' := (3, .bp 350001 0 []) :: tkS ⟨[], src⟩) ⟨rfl, rfl, rfl, rfl, trivial⟩) ?_
  refine aS (aR ?_)
  (refine nx (aM (gN rfl) rfl rfl rfl rfl rfl) rfl ?_)
  (refine nx (a_callO (gN rfl) rfl rfl rfl rfl rfl (hm) (by repeat (first | exact trivial | refine ⟨rfl, ?_⟩)) (by first | rfl | kernel_rfl) (by first | rfl | kernel_rfl) (by first | rfl | kernel_rfl) (by first | rfl | kernel_rfl) (hnb_of (by first | rfl | kernel_rfl))) rfl ?_)
  show AWp _ _ _ _ _ _ _
  refine aS (aR ?_)
  (refine nx (aM (gN rfl) rfl rfl rfl rfl rfl) rfl ?_)
  (refine nx (aA (gN rfl) rfl rfl rfl rfl rfl) rfl ?_)
  show AWp _ _ _ _ _ _ _
  exact aT ⟨.inr rfl, _, Wk.refl _, rfl, rfl, rfl, rfl, trivial⟩
noncomputable abbrev scv (c : List Se) : CV := .lst (c.map Se.cv)
theorem scv_size (l : List (List Se)) : ∀ c ∈ l.map scv, c.size = 1 := by
  intro c hc
  obtain ⟨t, _, rfl⟩ := List.mem_map.1 hc
  rfl
-- 
set_option maxHeartbeats 2000000 in
theorem file_abs (W : World) (n : Nat) (src : By) (r : List (List Se) × Bool) (hs : src.length ≤ 1000000) (hr : rdAll n src = some r) : AFun Tryd.prog W 13 [sv src] (.tup [.lst (r.1.map scv), .b r.2]) := by
  unfold rdAll at hr
  have hto := tokens_abs src hs
  have l0 := mvT_len src
  refine afun_of (rs := [.lst (r.1.map scv), .b r.2]) Tryd.func13 Tryd.ntmps13 rfl rfl rfl rfl ?_
  intro w U hW
  refine aS (aR ?_)
  (refine nx (aA (gN rfl) rfl rfl rfl rfl rfl) rfl ?_)
  (refine nx (aA (gN rfl) rfl rfl rfl rfl rfl) rfl ?_)
  show AWp _ _ _ _ _ _ _
  refine aS (aR ?_)
  (refine nx (aM (gN rfl) rfl rfl rfl rfl rfl) rfl ?_)
  (refine nx (a_callO (gN rfl) rfl rfl rfl rfl rfl (hto) (by repeat (first | exact trivial | refine ⟨rfl, ?_⟩)) (by first | rfl | kernel_rfl) (by first | rfl | kernel_rfl) (by first | rfl | kernel_rfl) (by first | rfl | kernel_rfl) (fun k v h => by first | (rw [hW.1] at h; cases h) | (have h2 := hU k v h; cases h2))) rfl ?_)
  (refine nx (aA (gN rfl) rfl rfl rfl rfl rfl) rfl ?_)
  show AWp _ _ _ _ _ _ _
  refine aS (aR ?_)
  (refine nx (aA (gN rfl) rfl rfl rfl rfl rfl) rfl ?_)
  show AWp _ _ _ _ _ _ _
  let st : List (List Se) → Tkn → AS := fun acc t => (4, .bp 350001 0 []) :: (5, .own (.lst (acc.map scv)) 200030) :: (200030, .tok 75 1) :: tkS t
  refine aS (aB (awp_loop (fun m s => ∃ acc t', acc.length + t'.len ≤ 1000000 ∧ rdF n m t' acc = some r ∧ s = st acc t') (n := n) (s' := st [] (mvT src)) ((wk_nil 5 200030 75 1 rfl rfl rfl rfl rfl (by kernel_rfl) (by kernel_rfl)).trans (wk_sub ⟨rfl, rfl, rfl, rfl, rfl, rfl, trivial⟩)) ⟨[], mvT src, by show 0 + (mvT src).len ≤ _; omega, hr, rfl⟩ ?_))
  rintro m s ⟨acc, t', hl, hm, rfl⟩
  obtain ⟨m, rfl⟩ : ∃ k, m = k + 1 := by
    cases m with
    | zero => simp [rdF] at hm
    | succ m => exact ⟨m, rfl⟩
  rw [rdF] at hm
  by_cases hnx : t'.nx = []
  · rw [if_pos hnx] at hm
    cases hm
    have g : (!decide (t'.nx = [])) = false := by rw [decide_eq_true hnx]; rfl
    refine aS (aS (aR ?_))
    (refine nx (aM (gN rfl) rfl rfl rfl rfl rfl) rfl ?_)
    (refine nx (aNc (gN rfl) rfl rfl rfl rfl rfl) rfl ?_)
    (refine nx (aF (gN rfl) rfl rfl rfl rfl rfl rfl rfl rfl rfl) rfl ?_)
    (refine nx (aLf (gN rfl) rfl rfl rfl rfl rfl rfl rfl rfl rfl rfl rfl rfl rfl) rfl ?_)
    (refine nx (a_sneq (gN rfl) rfl rfl rfl rfl rfl rfl rfl) rfl ?_)
    show AWp _ _ _ _ _ _ _
    refine aC rfl (fun h => by rw [g] at h; cases h) (fun h => aE ?_)
    show AWp _ _ _ _ _ _ _
    refine aS (aR ?_)
    (refine nx (aM (gN rfl) rfl rfl rfl rfl rfl) rfl ?_)
    (refine nx (aA (gN rfl) rfl rfl rfl rfl rfl) rfl ?_)
    (refine nx (aA (gN rfl) rfl rfl rfl rfl rfl) rfl ?_)
    show AWp _ _ _ _ _ _ _
    exact aT (And.intro (.inr rfl) rfl)
  · rw [if_neg hnx] at hm
    have g : (!decide (t'.nx = [])) = true := by rw [decide_eq_false hnx]; rfl
    cases hq : rdC n t' with
    | none => rw [hq] at hm; cases hm
    | some q =>
    rw [hq] at hm
    simp only at hm
    have hc := clause_abs n t' q (by omega) hq
    have l2 := rdC_len hq
    refine aS (aS (aR ?_))
    (refine nx (aM (gN rfl) rfl rfl rfl rfl rfl) rfl ?_)
    (refine nx (aNc (gN rfl) rfl rfl rfl rfl rfl) rfl ?_)
    (refine nx (aF (gN rfl) rfl rfl rfl rfl rfl rfl rfl rfl rfl) rfl ?_)
    (refine nx (aLf (gN rfl) rfl rfl rfl rfl rfl rfl rfl rfl rfl rfl rfl rfl rfl) rfl ?_)
    (refine nx (a_sneq (gN rfl) rfl rfl rfl rfl rfl rfl rfl) rfl ?_)
    show AWp _ _ _ _ _ _ _
    refine aC rfl (fun h => aK ?_) (fun h => by rw [g] at h; cases h)
    show AWp _ _ _ _ _ _ _
    refine aB (aS (aR ?_))
    (refine nx (aM (gN rfl) rfl rfl rfl rfl rfl) rfl ?_)
    (refine nx (a_callO (gN rfl) rfl rfl rfl rfl rfl (hc) (by repeat (first | exact trivial | refine ⟨rfl, ?_⟩)) (by first | rfl | kernel_rfl) (by first | rfl | kernel_rfl) (by first | rfl | kernel_rfl) (by first | rfl | kernel_rfl) (hnb_of (by first | rfl | kernel_rfl))) rfl ?_)
    (refine nx (aM (gN rfl) rfl rfl rfl rfl rfl) rfl ?_)
    (refine nx (aX (gN rfl) rfl rfl rfl rfl rfl rfl) rfl ?_)
    (refine nx (aX (gN rfl) rfl rfl rfl rfl rfl rfl) rfl ?_)
    (refine nx (aA (gN rfl) rfl rfl rfl rfl rfl) rfl ?_)
    (refine nx (aA (gN rfl) rfl rfl rfl rfl rfl) rfl ?_)
    show AWp _ _ _ _ _ _ _
    refine AWp.wk (wk_sub (s' := (4, .bp 350001 0 []) :: (5, .own (.lst (acc.map scv)) 200030) :: (200030, .tok 75 1) :: (6, .val (scv q.1)) :: (7, .val (.b q.2.1)) :: tkS q.2.2) ⟨rfl, rfl, rfl, rfl, rfl, rfl, rfl, rfl, trivial⟩) ?_
    cases hok : q.2.1 with
    | false =>
      rw [hok] at hm
      simp only [Bool.false_eq_true, if_false, Option.some.injEq] at hm
      subst hm
      refine aS (aS (aR ?_))
      (refine nx (aM (gN rfl) rfl rfl rfl rfl rfl) rfl ?_)
      (refine nx (a_not (gN rfl) rfl rfl rfl rfl rfl) rfl ?_)
      (refine nx (aM (gN rfl) rfl rfl rfl rfl rfl) rfl ?_)
      (refine ⟨_, _, _, a_off (go_off rfl rfl rfl rfl (by first | rfl | assumption | (simp; done) | (simp [*]; done))) rfl rfl rfl, rfl, ?_⟩)
      (refine ⟨_, _, _, a_off (go_off rfl rfl rfl rfl (by first | rfl | assumption | (simp; done) | (simp [*]; done))) rfl rfl rfl, rfl, ?_⟩)
      (refine ⟨_, _, _, a_off (go_off rfl rfl rfl rfl (by first | rfl | assumption | (simp; done) | (simp [*]; done))) rfl rfl rfl, rfl, ?_⟩)
      (refine ⟨_, _, _, aPt (gN rfl) rfl rfl rfl rfl rfl ?hb rfl, rfl, ?_⟩; case hb => (first | rfl | assumption | (simp; done)))
      show AWp _ _ _ _ _ _ _
      refine aC rfl (fun h => ?_) (fun h => by cases h)
      refine aS (aR ?_)
      (refine nx (aA (gN rfl) rfl rfl rfl rfl rfl) rfl ?_)
      (refine nx (aA (gN rfl) rfl rfl rfl rfl rfl) rfl ?_)
      show AWp _ _ _ _ _ _ _
      exact aT (And.intro (.inr rfl) rfl)
    | true =>
      rw [hok] at hm
      simp only [if_true] at hm
      have l4 := takeT_len q.2.2 [46]
      have htk := take_abs q.2.2 [46] (rs_le (by omega))
      have hsz := scv_size acc
      have hap : (acc ++ [q.1]).map scv = acc.map scv ++ [scv q.1] := by rw [List.map_append]; rfl
      cases hcm : (takeT q.2.2 [46]).1 with
      | false =>
        rw [hcm] at hm htk
        simp only [Bool.false_eq_true, if_false, Option.some.injEq] at hm
        subst hm
        refine aS (aS (aR ?_))
        (refine nx (aM (gN rfl) rfl rfl rfl rfl rfl) rfl ?_)
        (refine nx (a_not (gN rfl) rfl rfl rfl rfl rfl) rfl ?_)
        (refine nx (aM (gN rfl) rfl rfl rfl rfl rfl) rfl ?_)
        (refine nx (aM (gd_on rfl rfl rfl rfl (by first | rfl | assumption | (simp; done))) rfl rfl rfl rfl rfl) rfl ?_)
        (refine nx (a_callO (gd_on rfl rfl rfl rfl (by first | rfl | assumption | (simp; done))) rfl rfl rfl rfl rfl (htk) (by repeat (first | exact trivial | refine ⟨rfl, ?_⟩)) (by first | rfl | kernel_rfl) (by first | rfl | kernel_rfl) (by first | rfl | kernel_rfl) (by first | rfl | kernel_rfl) (hnb_of (by first | rfl | kernel_rfl))) rfl ?_)
        (refine nx (a_not (gd_on rfl rfl rfl rfl (by first | rfl | assumption | (simp; done))) rfl rfl rfl rfl rfl) rfl ?_)
        (refine ⟨_, _, _, aPf (gN rfl) rfl rfl rfl rfl rfl ?hb rfl, rfl, ?_⟩; case hb => (first | rfl | assumption | (simp; done)))
        show AWp _ _ _ _ _ _ _
        refine aC rfl (fun h => ?_) (fun h => by cases h)
        refine aS (aR ?_)
        (refine nx (aA (gN rfl) rfl rfl rfl rfl rfl) rfl ?_)
        (refine nx (aA (gN rfl) rfl rfl rfl rfl rfl) rfl ?_)
        show AWp _ _ _ _ _ _ _
        exact aT (And.intro (.inr rfl) rfl)
      | true =>
        have hnx2 : q.2.2.nx = [46] := by
          unfold takeT at hcm
          by_cases h : q.2.2.nx = [46]
          · exact h
          · rw [if_neg h] at hcm; cases hcm
        have l5 : (takeT q.2.2 [46]).2.len < q.2.2.len := by
          unfold takeT
          rw [if_pos hnx2]
          have := mvT_len q.2.2.rs
          show (mvT q.2.2.rs).len < _
          unfold Tkn.len at *
          rw [hnx2]
          simp only [List.length_singleton]
          omega
        rw [hcm] at hm htk
        simp only [if_true] at hm
        have hal : (acc.map scv).length ≤ 1000000 := by rw [List.length_map]; omega
        refine aS (aS (aR ?_))
        (refine nx (aM (gN rfl) rfl rfl rfl rfl rfl) rfl ?_)
        (refine nx (a_not (gN rfl) rfl rfl rfl rfl rfl) rfl ?_)
        (refine nx (aM (gN rfl) rfl rfl rfl rfl rfl) rfl ?_)
        (refine nx (aM (gd_on rfl rfl rfl rfl (by first | rfl | assumption | (simp; done))) rfl rfl rfl rfl rfl) rfl ?_)
        (refine nx (a_callO (gd_on rfl rfl rfl rfl (by first | rfl | assumption | (simp; done))) rfl rfl rfl rfl rfl (htk) (by repeat (first | exact trivial | refine ⟨rfl, ?_⟩)) (by first | rfl | kernel_rfl) (by first | rfl | kernel_rfl) (by first | rfl | kernel_rfl) (by first | rfl | kernel_rfl) (hnb_of (by first | rfl | kernel_rfl))) rfl ?_)
        (refine nx (a_not (gd_on rfl rfl rfl rfl (by first | rfl | assumption | (simp; done))) rfl rfl rfl rfl rfl) rfl ?_)
        (refine ⟨_, _, _, aPf (gN rfl) rfl rfl rfl rfl rfl ?hb rfl, rfl, ?_⟩; case hb => (first | rfl | assumption | (simp; done)))
        show AWp _ _ _ _ _ _ _
        refine aC rfl (fun h => by cases h) (fun h => aK ?_)
        show AWp _ _ _ _ _ _ _
        refine aR ?_
        (refine nx (aM (gN rfl) rfl rfl rfl rfl rfl) rfl ?_)
        (refine nx (aM (gN rfl) rfl rfl rfl rfl rfl) rfl ?_)
        (refine nx (a_bslice (gN rfl) rfl rfl rfl rfl rfl rfl rfl rfl rfl rfl rfl rfl rfl) rfl ?_)
        (refine nx (a_app (gN rfl) rfl rfl rfl rfl rfl rfl rfl rfl rfl rfl rfl rfl rfl rfl rfl (by first | assumption | exact sZ rfl | exact Tm.size_all _ | exact Bd.size_all _ | exact ints_size _ | exact bys_size _ | exact Lt.size_all _) (by first | assumption | exact sZ rfl | exact Tm.size_all _ | exact Bd.size_all _ | exact ints_size _ | exact bys_size _ | exact Lt.size_all _) (by first | omega | (simp only [List.length_map, List.length_append, List.length_cons, List.length_nil] <;> omega) | (simp <;> omega))) (by kernel_rfl) ?_)
        (refine nx (aA (gN rfl) rfl rfl rfl rfl rfl) rfl ?_)
        refine ⟨m, st (acc ++ [q.1]) (takeT q.2.2 [46]).2, by omega, ⟨acc ++ [q.1], _, by rw [List.length_append, List.length_singleton]; omega, hm, rfl⟩, (wk_sub (s' := (4, .bp 350001 0 []) :: (5, .own (.lst ((acc ++ [q.1]).map scv)) 300030) :: (300030, .tok 75 1) :: tkS (takeT q.2.2 [46]).2) ⟨rfl, by rw [hap]; rfl, rfl, rfl, rfl, rfl, trivial⟩).trans (wk_ren 300030 200030 rfl rfl (by kernel_rfl) (by kernel_rfl))⟩
end Go.Proofs.YtglbohajmccehaaDoor

-- @STR@
namespace Go.Proofs.YtglbohajmccehaaDoor
open Go.RowKit
set_option linter.unusedVariables false
set_option linter.unusedSimpArgs false
set_option maxRecDepth 100000

def Se.ok (s : Se) : Prop := s.a.ok ∧ (s.atom = false → s.b.ok)
def Se.sz (s : Se) : Nat := s.a.sz + s.b.sz
noncomputable abbrev tZ : CV := .row [.i 0, .lst []]
theorem litF_ok {n : Nat} {st : Nm} {s : Se} {r : Lt × Bool × Nm} (h : st.ok) (hs : s.ok) (hl : st.vr.length + s.sz ≤ 1000000) (e : litF n st s = some r) : StepOk st r.2.2 s.sz := by
  unfold litF at e
  unfold Se.sz at hl ⊢
  split at e
  · split at e
    · cases e
    · rename_i q hq
      have := sym_ok (tmF_ok n) h hs.1 (by omega) hq
      cases e
      unfold StepOk at *
      exact ⟨this.1, by show q.2.2.vr.length ≤ _; omega⟩
  · rename_i ha
    have hsb := hs.2 (by simpa using ha)
    split at e
    · cases e
    · rename_i q hq
      have h1 := tmF_ok n st s.a q h hs.1 (by omega) hq
      unfold StepOk at *
      split at e
      · split at e
        · cases e
        · rename_i q2 hq2
          have h2 := tmF_ok n q.2.2 s.b q2 h1.1 hsb (by omega) hq2
          unfold StepOk at h2
          cases e
          exact ⟨h2.1, by show q2.2.2.vr.length ≤ _; omega⟩
      · cases e
        exact ⟨h1.1, by show q.2.2.vr.length ≤ _; omega⟩
-- 
set_option maxHeartbeats 2000000 in
theorem lit2_abs (n : Nat) (st : Nm) (s : Se) (r : Lt × Bool × Nm) (h : st.ok) (hs : s.ok) (hl : st.vr.length + s.sz ≤ 1000000) (hr : litF n st s = some r) : AFunO Tryd.prog 34 (nmS st) [.bp 350001 0 [], .val s.cw] (.tup [r.1.cw, .b r.2.1]) (nmS r.2.2) := by
  unfold litF at hr
  unfold Se.sz at hl
  obtain ⟨hsa, hsb⟩ := hs
  refine afunO_of Tryd.func34 Tryd.ntmps34 rfl rfl rfl rfl rfl rfl ?_
  intro w U hU
  refine aS (aR ?_)
  (refine nx (a_box (gN rfl) rfl rfl rfl rfl rfl) (by kernel_rfl) ?_)
  (refine nx (a_alloc (gN rfl) rfl rfl rfl rfl rfl rfl rfl rfl rfl rfl) (by kernel_rfl) ?_)
  (refine nx (aA (gN rfl) rfl rfl rfl rfl rfl) rfl ?_)
  show AWp _ _ _ _ _ _ _
  refine aS (aR ?_)
  (refine nx (aF (gN rfl) rfl rfl rfl rfl rfl rfl rfl rfl rfl) rfl ?_)
  (refine nx (aLb (gN rfl) rfl rfl rfl rfl rfl rfl rfl rfl rfl rfl rfl rfl) rfl ?_)
  (refine nx (a_build (gN rfl) rfl rfl rfl rfl rfl rfl rfl rfl rfl rfl rfl) rfl ?_)
  (refine nx (a_alloc (gN rfl) rfl rfl rfl rfl rfl rfl rfl rfl rfl rfl) (by kernel_rfl) ?_)
  (refine nx (aSt (gN rfl) rfl rfl rfl rfl rfl rfl rfl rfl rfl rfl) rfl ?_)
  show AWp _ _ _ _ _ _ _
  refine aS (aR ?_)
  (refine nx (aA (gN rfl) rfl rfl rfl rfl rfl) rfl ?_)
  show AWp _ _ _ _ _ _ _
  refine AWp.wk (wk_sub (s' := (0, .bp 350001 0 []) :: (3, .bp 3 0 []) :: (100003, .bx s.cw) :: (4, .bp 4 0 []) :: (100004, .bx (.row [.b false, tZ, tZ])) :: (6, .bp 6 0 []) :: (100006, .bx (.row [.b s.neg, tZ, tZ])) :: nmS st) ⟨rfl, rfl, rfl, rfl, rfl, rfl, rfl, rfl, rfl, rfl, rfl, rfl, rfl, rfl, rfl, rfl, rfl, rfl, trivial⟩) ?_
  cases hat : s.atom with
  | true =>
    rw [hat] at hr
    simp only [if_true] at hr
    cases hq : symF (tmF n) st s.a true with
    | none => rw [hq] at hr; cases hr
    | some q =>
    rw [hq] at hr
    simp only [Option.some.injEq] at hr
    subst hr
    have hc := sym_of n (tm_abs n) st s.a true q h hsa (by omega) hq
    refine aS (aS (aR ?_))
    (refine nx (aF (gN rfl) rfl rfl rfl rfl rfl rfl rfl rfl rfl) rfl ?_)
    (refine nx (aLb (gN rfl) rfl rfl rfl rfl rfl rfl rfl rfl rfl rfl rfl rfl) rfl ?_)
    show AWp _ _ _ _ _ _ _
    refine aC rfl (fun _ => ?_) (fun hx => by rw [hat] at hx; cases hx)
    refine aS (aR ?_)
    (refine nx (aM (gN rfl) rfl rfl rfl rfl rfl) rfl ?_)
    (refine nx (aF (gN rfl) rfl rfl rfl rfl rfl rfl rfl rfl rfl) rfl ?_)
    (refine nx (aLb (gN rfl) rfl rfl rfl rfl rfl rfl rfl rfl rfl rfl rfl rfl) rfl ?_)
    (refine nx (a_callO (gN rfl) rfl rfl rfl rfl rfl (hc) (by repeat (first | exact trivial | refine ⟨rfl, ?_⟩)) (by first | rfl | kernel_rfl) (by first | rfl | kernel_rfl) (by first | rfl | kernel_rfl) (by first | rfl | kernel_rfl) (hnb_of (by first | rfl | kernel_rfl))) rfl ?_)
    (refine nx (aM (gN rfl) rfl rfl rfl rfl rfl) rfl ?_)
    (refine nx (aX (gN rfl) rfl rfl rfl rfl rfl rfl) rfl ?_)
    (refine nx (aX (gN rfl) rfl rfl rfl rfl rfl rfl) rfl ?_)
    (refine nx (aF (gN rfl) rfl rfl rfl rfl rfl rfl rfl rfl rfl) rfl ?_)
    (refine nx (a_store (gN rfl) rfl rfl rfl rfl rfl rfl rfl rfl rfl rfl) rfl ?_)
    (refine nx (aA (gN rfl) rfl rfl rfl rfl rfl) rfl ?_)
    show AWp _ _ _ _ _ _ _
    refine aS (aR ?_)
    (refine nx (aL (gN rfl) rfl rfl rfl rfl rfl rfl rfl rfl rfl rfl rfl rfl) rfl ?_)
    (refine nx (aM (gN rfl) rfl rfl rfl rfl rfl) rfl ?_)
    (refine nx (aSt (gN rfl) rfl rfl rfl rfl rfl rfl rfl rfl rfl rfl) rfl ?_)
    (refine nx (aA (gN rfl) rfl rfl rfl rfl rfl) rfl ?_)
    show AWp _ _ _ _ _ _ _
    exact aT ⟨.inr rfl, _, Wk.refl _, rfl, rfl, rfl, rfl, rfl, rfl, rfl, rfl, rfl, rfl, rfl, rfl, trivial⟩
  | false =>
  have hsb := hsb hat
  rw [hat] at hr
  simp only [Bool.false_eq_true, if_false] at hr
  cases hq : tmF n st s.a with
  | none => rw [hq] at hr; cases hr
  | some q =>
  rw [hq] at hr
  simp only at hr
  have hc := tm_abs n st s.a q h hsa (by omega) hq
  have ho := tmF_ok n st s.a q h hsa (by omega) hq
  unfold StepOk at ho
  refine aS (aS (aR ?_))
  (refine nx (aF (gN rfl) rfl rfl rfl rfl rfl rfl rfl rfl rfl) rfl ?_)
  (refine nx (aLb (gN rfl) rfl rfl rfl rfl rfl rfl rfl rfl rfl rfl rfl rfl) rfl ?_)
  show AWp _ _ _ _ _ _ _
  refine aC rfl (fun hx => by rw [hat] at hx; cases hx) (fun _ => aK ?_)
  show AWp _ _ _ _ _ _ _
  refine aS (aS (aR ?_))
  (refine nx (aM (gN rfl) rfl rfl rfl rfl rfl) rfl ?_)
  (refine nx (aF (gN rfl) rfl rfl rfl rfl rfl rfl rfl rfl rfl) rfl ?_)
  (refine nx (aLb (gN rfl) rfl rfl rfl rfl rfl rfl rfl rfl rfl rfl rfl rfl) rfl ?_)
  (refine nx (a_callO (gN rfl) rfl rfl rfl rfl rfl (hc) (by repeat (first | exact trivial | refine ⟨rfl, ?_⟩)) (by first | rfl | kernel_rfl) (by first | rfl | kernel_rfl) (by first | rfl | kernel_rfl) (by first | rfl | kernel_rfl) (hnb_of (by first | rfl | kernel_rfl))) rfl ?_)
  (refine nx (aM (gN rfl) rfl rfl rfl rfl rfl) rfl ?_)
  (refine nx (aX (gN rfl) rfl rfl rfl rfl rfl rfl) rfl ?_)
  (refine nx (aX (gN rfl) rfl rfl rfl rfl rfl rfl) rfl ?_)
  (refine nx (aF (gN rfl) rfl rfl rfl rfl rfl rfl rfl rfl rfl) rfl ?_)
  (refine nx (a_store (gN rfl) rfl rfl rfl rfl rfl rfl rfl rfl rfl rfl) rfl ?_)
  (refine nx (aA (gN rfl) rfl rfl rfl rfl rfl) rfl ?_)
  show AWp _ _ _ _ _ _ _
  refine AWp.wk (wk_sub (s' := (0, .bp 350001 0 []) :: (3, .bp 3 0 []) :: (100003, .bx s.cw) :: (4, .bp 4 0 []) :: (100004, .bx (.row [.b false, tZ, tZ])) :: (6, .bp 6 0 []) :: (100006, ⟨5, .row [.b s.neg, q.1.cw, tZ], 0, 0, [1]⟩) :: (7, .val (.b q.2.1)) :: nmS q.2.2) ⟨rfl, rfl, rfl, rfl, rfl, rfl, rfl, rfl, rfl, rfl, rfl, rfl, rfl, rfl, rfl, rfl, rfl, rfl, rfl, trivial⟩) ?_
  cases hok : q.2.1 with
  | false =>
    rw [hok] at hr
    simp only [Bool.false_eq_true, if_false, Option.some.injEq] at hr
    subst hr
    refine aS (aR ?_)
    (refine nx (aM (gN rfl) rfl rfl rfl rfl rfl) rfl ?_)
    (refine nx (a_not (gN rfl) rfl rfl rfl rfl rfl) rfl ?_)
    show AWp _ _ _ _ _ _ _
    refine aC rfl (fun hc => ?_) (fun hc => by cases hc)
    refine aS (aR ?_)
    (refine nx (a_build (gN rfl) rfl rfl rfl rfl rfl rfl rfl rfl rfl rfl rfl) rfl ?_)
    (refine nx (aSt (gN rfl) rfl rfl rfl rfl rfl rfl rfl rfl rfl rfl) rfl ?_)
    (refine nx (aA (gN rfl) rfl rfl rfl rfl rfl) rfl ?_)
    show AWp _ _ _ _ _ _ _
    exact aT ⟨.inr rfl, _, Wk.refl _, rfl, rfl, rfl, rfl, rfl, rfl, rfl, rfl, rfl, rfl, rfl, rfl, trivial⟩
  | true =>
    rw [hok] at hr
    simp only [if_true] at hr
    cases hq2 : tmF n q.2.2 s.b with
    | none => rw [hq2] at hr; cases hr
    | some q2 =>
    rw [hq2] at hr
    simp only [Option.some.injEq] at hr
    subst hr
    have hc2 := tm_abs n q.2.2 s.b q2 ho.1 hsb (by omega) hq2
    refine aS (aR ?_)
    (refine nx (aM (gN rfl) rfl rfl rfl rfl rfl) rfl ?_)
    (refine nx (a_not (gN rfl) rfl rfl rfl rfl rfl) rfl ?_)
    show AWp _ _ _ _ _ _ _
    refine aC rfl (fun hc => by cases hc) (fun hc => aK ?_)
    show AWp _ _ _ _ _ _ _
    refine aS (aR ?_)
    (refine nx (aM (gN rfl) rfl rfl rfl rfl rfl) rfl ?_)
    (refine nx (aF (gN rfl) rfl rfl rfl rfl rfl rfl rfl rfl rfl) rfl ?_)
    (refine nx (aLb (gN rfl) rfl rfl rfl rfl rfl rfl rfl rfl rfl rfl rfl rfl) rfl ?_)
    (refine nx (a_callO (gN rfl) rfl rfl rfl rfl rfl (hc2) (by repeat (first | exact trivial | refine ⟨rfl, ?_⟩)) (by first | rfl | kernel_rfl) (by first | rfl | kernel_rfl) (by first | rfl | kernel_rfl) (by first | rfl | kernel_rfl) (hnb_of (by first | rfl | kernel_rfl))) rfl ?_)
    (refine nx (aM (gN rfl) rfl rfl rfl rfl rfl) rfl ?_)
    (refine nx (aX (gN rfl) rfl rfl rfl rfl rfl rfl) rfl ?_)
    (refine nx (aX (gN rfl) rfl rfl rfl rfl rfl rfl) rfl ?_)
    (refine nx (aF (gN rfl) rfl rfl rfl rfl rfl rfl rfl rfl rfl) rfl ?_)
    (refine nx (a_store (gN rfl) rfl rfl rfl rfl rfl rfl rfl rfl rfl rfl) rfl ?_)
    (refine nx (aA (gN rfl) rfl rfl rfl rfl rfl) rfl ?_)
    show AWp _ _ _ _ _ _ _
    refine aS (aR ?_)
    (refine nx (aL (gN rfl) rfl rfl rfl rfl rfl rfl rfl rfl rfl rfl rfl rfl) rfl ?_)
    (refine nx (aM (gN rfl) rfl rfl rfl rfl rfl) rfl ?_)
    (refine nx (aSt (gN rfl) rfl rfl rfl rfl rfl rfl rfl rfl rfl rfl) rfl ?_)
    (refine nx (aA (gN rfl) rfl rfl rfl rfl rfl) rfl ?_)
    show AWp _ _ _ _ _ _ _
    exact aT ⟨.inr rfl, _, Wk.refl _, rfl, rfl, rfl, rfl, rfl, rfl, rfl, rfl, rfl, rfl, rfl, rfl, trivial⟩
theorem litsF_ok {n : Nat} : ∀ (ss : List Se) (st : Nm) (acc : List Lt) (r : List Lt × Bool × Nm), st.ok → (∀ s ∈ ss, s.ok) → st.vr.length + (ss.map Se.sz).sum ≤ 1000000 → litsF n st ss acc = some r → StepOk st r.2.2 (ss.map Se.sz).sum
  | [], st, acc, r, h, _, _, e => by
    simp only [litsF, Option.some.injEq] at e
    subst e
    exact ⟨h, Nat.le_add_right _ _⟩
  | p :: ps, st, acc, r, h, hp, hl, e => by
    rw [litsF] at e
    rw [List.map_cons, List.sum_cons] at hl ⊢
    cases hx : litF n st p with
    | none => rw [hx] at e; cases e
    | some q =>
      rw [hx] at e
      simp only at e
      have h1 := litF_ok h (hp p (by simp)) (by omega) hx
      unfold StepOk at h1 ⊢
      split at e
      · have h2 := litsF_ok ps q.2.2 _ r h1.1 (fun p hm => hp p (List.mem_cons_of_mem _ hm)) (by omega) e
        unfold StepOk at h2
        exact ⟨h2.1, by omega⟩
      · cases e
        exact ⟨h1.1, by show q.2.2.vr.length ≤ _; omega⟩
theorem sum_dropS {ps : List Se} {k : Nat} {p : Se} (h : ps[k]? = some p) : ((ps.drop k).map Se.sz).sum = p.sz + ((ps.drop (k + 1)).map Se.sz).sum := by
  obtain ⟨hk, e⟩ := List.getElem?_eq_some_iff.1 h
  rw [List.drop_eq_getElem_cons hk, List.map_cons, List.sum_cons, e]
theorem nm_clear {st : Nm} (h : st.ok) : (⟨st.sg, st.sy, []⟩ : Nm).ok := ⟨h.la, h.lp, h.small, h.syk, h.syn, h.sys, (fun p hp => by cases hp), List.nodup_nil, ⟨Nat.zero_le _, (fun p hp => by cases hp)⟩⟩
noncomputable abbrev nmI (st : Nm) : AS := [(450001, .obj), (35500100, .sl 300001 0 st.sg.nm.length 1), (35500101, .sl 300002 0 st.sg.ar.length 1), (35500102, .sl 300003 0 st.sg.pr.length 1), (35500103, .mref 300004), (35500104, .val (.sc (.map none))), (300001, .mrow 9 1 (st.sg.nm.map sv)), (300002, .mrow 3 1 (st.sg.ar.map iv)), (300003, .mrow 4 1 (st.sg.pr.map bv)), (300004, .mp (st.sy.map syv))]
-- 
set_option maxHeartbeats 4000000 in
theorem cls_abs (n : Nat) (st : Nm) (c : List Se) (r : List Lt × Bool × Nm) (h : st.ok) (hc : ∀ s ∈ c, s.ok) (hcl : c.length ≤ 1000000) (hl : (c.map Se.sz).sum ≤ 1000000) (hr : clsF n st c = some r) : AFunO Tryd.prog 25 (nmS st) [.bp 350001 0 [], .val (scv c)] (.tup [.lst (r.1.map Lt.cv), .b r.2.1]) (nmS r.2.2) := by
  unfold clsF at hr
  have h0 := nm_clear h
  obtain ⟨st0, hst0⟩ : ∃ s : Nm, s = ⟨st.sg, st.sy, []⟩ := ⟨_, rfl⟩
  rw [← hst0] at hr h0
  have hcz := Se.size_all c
  refine afunO_of Tryd.func25 Tryd.ntmps25 rfl rfl rfl rfl rfl rfl ?_
  intro w U hU
  refine aS (aR ?_)
  (refine nx (aA (gN rfl) rfl rfl rfl rfl rfl) rfl ?_)
  (refine nx (aA (gN rfl) rfl rfl rfl rfl rfl) rfl ?_)
  show AWp _ _ _ _ _ _ _
  refine aS (aR ?_)
  (refine nx (aM (gN rfl) rfl rfl rfl rfl rfl) rfl ?_)
  (refine nx (a_mkmap 300012 (gN rfl) rfl rfl rfl rfl rfl) (by kernel_rfl) ?_)
  (refine nx (aNc (gN rfl) rfl rfl rfl rfl rfl) rfl ?_)
  (refine nx (aF (gN rfl) rfl rfl rfl rfl rfl rfl rfl rfl rfl) rfl ?_)
  (refine nx (a_store_fld (gN rfl) rfl rfl rfl rfl rfl rfl rfl rfl rfl rfl rfl rfl) rfl ?_)
  show AWp _ _ _ _ _ _ _
  refine AWp.wk ((wk_sub (s' := (0, .bp 350001 0 []) :: (1, .val (scv c)) :: [(450001, .obj), (35500100, .sl 300001 0 st.sg.nm.length 1), (35500101, .sl 300002 0 st.sg.ar.length 1), (35500102, .sl 300003 0 st.sg.pr.length 1), (35500103, .mref 300004), (35500104, .mref 300012), (300001, .mrow 9 1 (st.sg.nm.map sv)), (300002, .mrow 3 1 (st.sg.ar.map iv)), (300003, .mrow 4 1 (st.sg.pr.map bv)), (300004, .mp (st.sy.map syv)), (300012, .mp [])]) ⟨rfl, rfl, rfl, rfl, rfl, rfl, rfl, rfl, rfl, rfl, rfl, rfl, rfl, trivial⟩).trans ((wk_ren 300012 300005 rfl rfl (by kernel_rfl) (by kernel_rfl)).trans (wk_sub (s' := (0, .bp 350001 0 []) :: (1, .val (scv c)) :: nmS st0) (by rw [hst0]; exact ⟨rfl, rfl, rfl, rfl, rfl, rfl, rfl, rfl, rfl, rfl, rfl, rfl, rfl, trivial⟩)))) ?_
  refine aS (aR ?_)
  (refine nx (aA (gN rfl) rfl rfl rfl rfl rfl) rfl ?_)
  show AWp _ _ _ _ _ _ _
  refine aS (aS (aR ?_))
  (refine nx (aM (gN rfl) rfl rfl rfl rfl rfl) rfl ?_)
  (refine nx (a_len (gN rfl) rfl rfl rfl rfl rfl rfl rfl) rfl ?_)
  (refine nx (aM (gN rfl) rfl rfl rfl rfl rfl) rfl ?_)
  show AWp _ _ _ _ _ _ _
  let sS : Nat → List Lt → Nm → AS := fun k acc s => (0, .bp 350001 0 []) :: (6, .own (.lst (acc.map Lt.cv)) 200032) :: (200032, .tok 50 5) :: (15, .val (scv c)) :: (16, .val (.i (c.map Se.cv).length)) :: (17, .val (.i (k : Int))) :: nmS s
  refine aB (awp_loop (fun m s => ∃ k acc st', m = c.length - k ∧ k ≤ c.length ∧ acc.length = k ∧ litsF n st' (c.drop k) acc = some r ∧ st'.ok ∧ st'.vr.length + ((c.drop k).map Se.sz).sum ≤ 1000000 ∧ s = sS k acc st') (n := c.length) (s' := sS 0 [] st0) ((wk_nil 6 200032 50 5 rfl rfl rfl rfl rfl (by kernel_rfl) (by kernel_rfl)).trans (wk_sub ⟨rfl, rfl, rfl, rfl, rfl, rfl, rfl, rfl, rfl, rfl, rfl, rfl, rfl, rfl, rfl, rfl, rfl, trivial⟩)) ⟨0, [], st0, rfl, Nat.zero_le _, rfl, hr, h0, by rw [List.drop_zero, hst0]; show 0 + _ ≤ _; omega, rfl⟩ ?_)
  rintro m s ⟨k, acc, st', rfl, hk, hal, hf, ho, hsl, rfl⟩
  refine aS (aR ?_)
  (refine nx (a_lss (gN rfl) rfl rfl rfl rfl rfl rfl) rfl ?_)
  show AWp _ _ _ _ _ _ _
  refine aS (aC rfl (fun hlt => aK ?_) (fun hlt => aE ?_))
  · have hkl : k < c.length := by simpa using hlt
    obtain ⟨x, hx⟩ : ∃ x, c[k]? = some x := ⟨c[k], List.getElem?_eq_getElem hkl⟩
    have hx' := Se.map_at hx
    have hxo := hc x (List.mem_of_getElem? hx)
    rw [sum_dropS hx] at hsl
    rw [drop_at hx, litsF] at hf
    cases hx2 : litF n st' x with
    | none => rw [hx2] at hf; cases hf
    | some u =>
    rw [hx2] at hf
    simp only at hf
    have hlc := lit2_abs n st' x u ho hxo (by omega) hx2
    have hso := litF_ok ho hxo (by omega) hx2
    unfold StepOk at hso
    show AWp _ _ _ _ _ _ _
    refine aS (aB (aS (aR ?_)))
    (refine nx (a_index (j := k) (gN rfl) rfl rfl rfl rfl rfl rfl rfl rfl rfl (hx') rfl (hcz)) rfl ?_)
    (refine nx (a_load_ad (gN rfl) rfl rfl rfl rfl rfl rfl rfl rfl rfl) rfl ?_)
    (refine nx (a_alloc (gN rfl) rfl rfl rfl rfl rfl rfl rfl rfl rfl rfl) (by kernel_rfl) ?_)
    (refine nx (aSt (gN rfl) rfl rfl rfl rfl rfl rfl rfl rfl rfl rfl) rfl ?_)
    show AWp _ _ _ _ _ _ _
    refine aS (aR ?_)
    (refine nx (aM (gN rfl) rfl rfl rfl rfl rfl) rfl ?_)
    (refine nx (aL (gN rfl) rfl rfl rfl rfl rfl rfl rfl rfl rfl rfl rfl rfl) rfl ?_)
    (refine nx (a_callO (gN rfl) rfl rfl rfl rfl rfl (hlc) (by repeat (first | exact trivial | refine ⟨rfl, ?_⟩)) (by first | rfl | kernel_rfl) (by first | rfl | kernel_rfl) (by first | rfl | kernel_rfl) (by first | rfl | kernel_rfl) (hnb_of (by first | rfl | kernel_rfl))) rfl ?_)
    (refine nx (aM (gN rfl) rfl rfl rfl rfl rfl) rfl ?_)
    (refine nx (aX (gN rfl) rfl rfl rfl rfl rfl rfl) rfl ?_)
    (refine nx (aX (gN rfl) rfl rfl rfl rfl rfl rfl) rfl ?_)
    (refine nx (a_alloc (gN rfl) rfl rfl rfl rfl rfl rfl rfl rfl rfl rfl) (by kernel_rfl) ?_)
    (refine nx (aSt (gN rfl) rfl rfl rfl rfl rfl rfl rfl rfl rfl rfl) rfl ?_)
    (refine nx (aA (gN rfl) rfl rfl rfl rfl rfl) rfl ?_)
    show AWp _ _ _ _ _ _ _
    refine AWp.wk (wk_sub (s' := (9, .bp 9 0 []) :: (100009, .bx u.1.cw) :: (10, .val (.b u.2.1)) :: sS k acc u.2.2) ⟨rfl, rfl, rfl, rfl, rfl, rfl, rfl, rfl, rfl, rfl, rfl, rfl, rfl, rfl, rfl, rfl, rfl, rfl, rfl, rfl, trivial⟩) ?_
    cases hok : u.2.1 with
    | false =>
      rw [hok] at hf
      simp only [Bool.false_eq_true, if_false, Option.some.injEq] at hf
      subst hf
      refine aS (aS (aR ?_))
      (refine nx (aM (gN rfl) rfl rfl rfl rfl rfl) rfl ?_)
      (refine nx (a_not (gN rfl) rfl rfl rfl rfl rfl) rfl ?_)
      show AWp _ _ _ _ _ _ _
      refine aC rfl (fun hc => ?_) (fun hc => by cases hc)
      refine aS (aR ?_)
      (refine nx (aA (gN rfl) rfl rfl rfl rfl rfl) rfl ?_)
      (refine nx (aA (gN rfl) rfl rfl rfl rfl rfl) rfl ?_)
      show AWp _ _ _ _ _ _ _
      exact aT ⟨.inr rfl, _, Wk.refl _, rfl, rfl, rfl, rfl, rfl, rfl, rfl, rfl, rfl, rfl, rfl, rfl, trivial⟩
    | true =>
      rw [hok] at hf
      simp only [if_true] at hf
      have hsz2 := Lt.size_all acc
      have hal2 : (acc.map Lt.cv).length ≤ 1000000 := by rw [List.length_map]; omega
      have hap : (acc ++ [u.1]).map Lt.cv = acc.map Lt.cv ++ [u.1.cw] := by rw [List.map_append]; rfl
      refine aS (aS (aR ?_))
      (refine nx (aM (gN rfl) rfl rfl rfl rfl rfl) rfl ?_)
      (refine nx (a_not (gN rfl) rfl rfl rfl rfl rfl) rfl ?_)
      show AWp _ _ _ _ _ _ _
      refine aC rfl (fun hc => by cases hc) (fun hc => aK ?_)
      show AWp _ _ _ _ _ _ _
      refine aR ?_
      (refine nx (aM (gN rfl) rfl rfl rfl rfl rfl) rfl ?_)
      (refine nx (aL (gN rfl) rfl rfl rfl rfl rfl rfl rfl rfl rfl rfl rfl rfl) rfl ?_)
      (refine nx (a_bslice (gN rfl) rfl rfl rfl rfl rfl rfl rfl rfl rfl rfl rfl rfl rfl) rfl ?_)
      (refine nx (a_app (gN rfl) rfl rfl rfl rfl rfl rfl rfl rfl rfl rfl rfl rfl rfl rfl rfl (by first | assumption | exact sZ rfl | exact Tm.size_all _ | exact Bd.size_all _ | exact ints_size _ | exact bys_size _ | exact Lt.size_all _) (by first | assumption | exact sZ rfl | exact Tm.size_all _ | exact Bd.size_all _ | exact ints_size _ | exact bys_size _ | exact Lt.size_all _) (by first | omega | (simp only [List.length_map, List.length_append, List.length_cons, List.length_nil] <;> omega) | (simp <;> omega))) (by kernel_rfl) ?_)
      (refine nx (aA (gN rfl) rfl rfl rfl rfl rfl) rfl ?_)
      show AWp _ _ _ _ _ _ _
      refine aR ?_
      (refine nx (a_add (gN rfl) rfl rfl rfl rfl rfl rfl (by first | omega | (simp only [List.length_map, List.length_append, List.length_cons, List.length_nil] <;> omega) | (simp <;> omega))) rfl ?_)
      (refine nx (aM (gN rfl) rfl rfl rfl rfl rfl) rfl ?_)
      refine ⟨c.length - (k + 1), sS (k + 1) (acc ++ [u.1]) u.2.2, by omega, ⟨k + 1, acc ++ [u.1], u.2.2, rfl, by omega, by rw [List.length_append, hal]; rfl, hf, hso.1, by omega, rfl⟩, (wk_sub (s' := (0, .bp 350001 0 []) :: (6, .own (.lst ((acc ++ [u.1]).map Lt.cv)) 300032) :: (300032, .tok 50 5) :: (15, .val (scv c)) :: (16, .val (.i (c.map Se.cv).length)) :: (17, .val (.i ((k + 1 : Nat) : Int))) :: nmS u.2.2) ⟨rfl, by rw [hap]; rfl, rfl, rfl, rfl, rfl, rfl, rfl, rfl, rfl, rfl, rfl, rfl, rfl, rfl, rfl, rfl, trivial⟩).trans (wk_ren 300032 200032 rfl rfl (by kernel_rfl) (by kernel_rfl))⟩
  · have hkl : k = c.length := by
      have : ¬ k < c.length := by simpa using hlt
      omega
    subst hkl
    rw [List.drop_length] at hf
    simp only [litsF, Option.some.injEq] at hf
    subst hf
    show AWp _ _ _ _ _ _ _
    refine aS (aR ?_)
    (refine nx (aM (gN rfl) rfl rfl rfl rfl rfl) rfl ?_)
    (refine nx (aA (gN rfl) rfl rfl rfl rfl rfl) rfl ?_)
    (refine nx (aA (gN rfl) rfl rfl rfl rfl rfl) rfl ?_)
    show AWp _ _ _ _ _ _ _
    exact aT ⟨.inr rfl, _, Wk.refl _, rfl, rfl, rfl, rfl, rfl, rfl, rfl, rfl, rfl, rfl, rfl, rfl, trivial⟩
-- 
set_option maxHeartbeats 4000000 in
theorem cls0_abs (n : Nat) (st : Nm) (c : List Se) (r : List Lt × Bool × Nm) (h : st.ok) (hc : ∀ s ∈ c, s.ok) (hcl : c.length ≤ 1000000) (hl : (c.map Se.sz).sum ≤ 1000000) (hr : clsF n st c = some r) : AFunO Tryd.prog 25 (nmI st) [.bp 350001 0 [], .val (scv c)] (.tup [.lst (r.1.map Lt.cv), .b r.2.1]) (nmS r.2.2) := by
  unfold clsF at hr
  have h0 := nm_clear h
  obtain ⟨st0, hst0⟩ : ∃ s : Nm, s = ⟨st.sg, st.sy, []⟩ := ⟨_, rfl⟩
  rw [← hst0] at hr h0
  have hcz := Se.size_all c
  refine afunO_of Tryd.func25 Tryd.ntmps25 rfl rfl rfl rfl rfl rfl ?_
  intro w U hU
  refine aS (aR ?_)
  (refine nx (aA (gN rfl) rfl rfl rfl rfl rfl) rfl ?_)
  (refine nx (aA (gN rfl) rfl rfl rfl rfl rfl) rfl ?_)
  show AWp _ _ _ _ _ _ _
  refine aS (aR ?_)
  (refine nx (aM (gN rfl) rfl rfl rfl rfl rfl) rfl ?_)
  (refine nx (a_mkmap 300012 (gN rfl) rfl rfl rfl rfl rfl) (by kernel_rfl) ?_)
  (refine nx (aNc (gN rfl) rfl rfl rfl rfl rfl) rfl ?_)
  (refine nx (aF (gN rfl) rfl rfl rfl rfl rfl rfl rfl rfl rfl) rfl ?_)
  (refine nx (a_store_fld (gN rfl) rfl rfl rfl rfl rfl rfl rfl rfl rfl rfl rfl rfl) rfl ?_)
  show AWp _ _ _ _ _ _ _
  refine AWp.wk ((wk_sub (s' := (0, .bp 350001 0 []) :: (1, .val (scv c)) :: [(450001, .obj), (35500100, .sl 300001 0 st.sg.nm.length 1), (35500101, .sl 300002 0 st.sg.ar.length 1), (35500102, .sl 300003 0 st.sg.pr.length 1), (35500103, .mref 300004), (35500104, .mref 300012), (300001, .mrow 9 1 (st.sg.nm.map sv)), (300002, .mrow 3 1 (st.sg.ar.map iv)), (300003, .mrow 4 1 (st.sg.pr.map bv)), (300004, .mp (st.sy.map syv)), (300012, .mp [])]) ⟨rfl, rfl, rfl, rfl, rfl, rfl, rfl, rfl, rfl, rfl, rfl, rfl, rfl, trivial⟩).trans ((wk_ren 300012 300005 rfl rfl (by kernel_rfl) (by kernel_rfl)).trans (wk_sub (s' := (0, .bp 350001 0 []) :: (1, .val (scv c)) :: nmS st0) (by rw [hst0]; exact ⟨rfl, rfl, rfl, rfl, rfl, rfl, rfl, rfl, rfl, rfl, rfl, rfl, rfl, trivial⟩)))) ?_
  refine aS (aR ?_)
  (refine nx (aA (gN rfl) rfl rfl rfl rfl rfl) rfl ?_)
  show AWp _ _ _ _ _ _ _
  refine aS (aS (aR ?_))
  (refine nx (aM (gN rfl) rfl rfl rfl rfl rfl) rfl ?_)
  (refine nx (a_len (gN rfl) rfl rfl rfl rfl rfl rfl rfl) rfl ?_)
  (refine nx (aM (gN rfl) rfl rfl rfl rfl rfl) rfl ?_)
  show AWp _ _ _ _ _ _ _
  let sS : Nat → List Lt → Nm → AS := fun k acc s => (0, .bp 350001 0 []) :: (6, .own (.lst (acc.map Lt.cv)) 200032) :: (200032, .tok 50 5) :: (15, .val (scv c)) :: (16, .val (.i (c.map Se.cv).length)) :: (17, .val (.i (k : Int))) :: nmS s
  refine aB (awp_loop (fun m s => ∃ k acc st', m = c.length - k ∧ k ≤ c.length ∧ acc.length = k ∧ litsF n st' (c.drop k) acc = some r ∧ st'.ok ∧ st'.vr.length + ((c.drop k).map Se.sz).sum ≤ 1000000 ∧ s = sS k acc st') (n := c.length) (s' := sS 0 [] st0) ((wk_nil 6 200032 50 5 rfl rfl rfl rfl rfl (by kernel_rfl) (by kernel_rfl)).trans (wk_sub ⟨rfl, rfl, rfl, rfl, rfl, rfl, rfl, rfl, rfl, rfl, rfl, rfl, rfl, rfl, rfl, rfl, rfl, trivial⟩)) ⟨0, [], st0, rfl, Nat.zero_le _, rfl, hr, h0, by rw [List.drop_zero, hst0]; show 0 + _ ≤ _; omega, rfl⟩ ?_)
  rintro m s ⟨k, acc, st', rfl, hk, hal, hf, ho, hsl, rfl⟩
  refine aS (aR ?_)
  (refine nx (a_lss (gN rfl) rfl rfl rfl rfl rfl rfl) rfl ?_)
  show AWp _ _ _ _ _ _ _
  refine aS (aC rfl (fun hlt => aK ?_) (fun hlt => aE ?_))
  · have hkl : k < c.length := by simpa using hlt
    obtain ⟨x, hx⟩ : ∃ x, c[k]? = some x := ⟨c[k], List.getElem?_eq_getElem hkl⟩
    have hx' := Se.map_at hx
    have hxo := hc x (List.mem_of_getElem? hx)
    rw [sum_dropS hx] at hsl
    rw [drop_at hx, litsF] at hf
    cases hx2 : litF n st' x with
    | none => rw [hx2] at hf; cases hf
    | some u =>
    rw [hx2] at hf
    simp only at hf
    have hlc := lit2_abs n st' x u ho hxo (by omega) hx2
    have hso := litF_ok ho hxo (by omega) hx2
    unfold StepOk at hso
    show AWp _ _ _ _ _ _ _
    refine aS (aB (aS (aR ?_)))
    (refine nx (a_index (j := k) (gN rfl) rfl rfl rfl rfl rfl rfl rfl rfl rfl (hx') rfl (hcz)) rfl ?_)
    (refine nx (a_load_ad (gN rfl) rfl rfl rfl rfl rfl rfl rfl rfl rfl) rfl ?_)
    (refine nx (a_alloc (gN rfl) rfl rfl rfl rfl rfl rfl rfl rfl rfl rfl) (by kernel_rfl) ?_)
    (refine nx (aSt (gN rfl) rfl rfl rfl rfl rfl rfl rfl rfl rfl rfl) rfl ?_)
    show AWp _ _ _ _ _ _ _
    refine aS (aR ?_)
    (refine nx (aM (gN rfl) rfl rfl rfl rfl rfl) rfl ?_)
    (refine nx (aL (gN rfl) rfl rfl rfl rfl rfl rfl rfl rfl rfl rfl rfl rfl) rfl ?_)
    (refine nx (a_callO (gN rfl) rfl rfl rfl rfl rfl (hlc) (by repeat (first | exact trivial | refine ⟨rfl, ?_⟩)) (by first | rfl | kernel_rfl) (by first | rfl | kernel_rfl) (by first | rfl | kernel_rfl) (by first | rfl | kernel_rfl) (hnb_of (by first | rfl | kernel_rfl))) rfl ?_)
    (refine nx (aM (gN rfl) rfl rfl rfl rfl rfl) rfl ?_)
    (refine nx (aX (gN rfl) rfl rfl rfl rfl rfl rfl) rfl ?_)
    (refine nx (aX (gN rfl) rfl rfl rfl rfl rfl rfl) rfl ?_)
    (refine nx (a_alloc (gN rfl) rfl rfl rfl rfl rfl rfl rfl rfl rfl rfl) (by kernel_rfl) ?_)
    (refine nx (aSt (gN rfl) rfl rfl rfl rfl rfl rfl rfl rfl rfl rfl) rfl ?_)
    (refine nx (aA (gN rfl) rfl rfl rfl rfl rfl) rfl ?_)
    show AWp _ _ _ _ _ _ _
    refine AWp.wk (wk_sub (s' := (9, .bp 9 0 []) :: (100009, .bx u.1.cw) :: (10, .val (.b u.2.1)) :: sS k acc u.2.2) ⟨rfl, rfl, rfl, rfl, rfl, rfl, rfl, rfl, rfl, rfl, rfl, rfl, rfl, rfl, rfl, rfl, rfl, rfl, rfl, rfl, trivial⟩) ?_
    cases hok : u.2.1 with
    | false =>
      rw [hok] at hf
      simp only [Bool.false_eq_true, if_false, Option.some.injEq] at hf
      subst hf
      refine aS (aS (aR ?_))
      (refine nx (aM (gN rfl) rfl rfl rfl rfl rfl) rfl ?_)
      (refine nx (a_not (gN rfl) rfl rfl rfl rfl rfl) rfl ?_)
      show AWp _ _ _ _ _ _ _
      refine aC rfl (fun hc => ?_) (fun hc => by cases hc)
      refine aS (aR ?_)
      (refine nx (aA (gN rfl) rfl rfl rfl rfl rfl) rfl ?_)
      (refine nx (aA (gN rfl) rfl rfl rfl rfl rfl) rfl ?_)
      show AWp _ _ _ _ _ _ _
      exact aT ⟨.inr rfl, _, Wk.refl _, rfl, rfl, rfl, rfl, rfl, rfl, rfl, rfl, rfl, rfl, rfl, rfl, trivial⟩
    | true =>
      rw [hok] at hf
      simp only [if_true] at hf
      have hsz2 := Lt.size_all acc
      have hal2 : (acc.map Lt.cv).length ≤ 1000000 := by rw [List.length_map]; omega
      have hap : (acc ++ [u.1]).map Lt.cv = acc.map Lt.cv ++ [u.1.cw] := by rw [List.map_append]; rfl
      refine aS (aS (aR ?_))
      (refine nx (aM (gN rfl) rfl rfl rfl rfl rfl) rfl ?_)
      (refine nx (a_not (gN rfl) rfl rfl rfl rfl rfl) rfl ?_)
      show AWp _ _ _ _ _ _ _
      refine aC rfl (fun hc => by cases hc) (fun hc => aK ?_)
      show AWp _ _ _ _ _ _ _
      refine aR ?_
      (refine nx (aM (gN rfl) rfl rfl rfl rfl rfl) rfl ?_)
      (refine nx (aL (gN rfl) rfl rfl rfl rfl rfl rfl rfl rfl rfl rfl rfl rfl) rfl ?_)
      (refine nx (a_bslice (gN rfl) rfl rfl rfl rfl rfl rfl rfl rfl rfl rfl rfl rfl rfl) rfl ?_)
      (refine nx (a_app (gN rfl) rfl rfl rfl rfl rfl rfl rfl rfl rfl rfl rfl rfl rfl rfl rfl (by first | assumption | exact sZ rfl | exact Tm.size_all _ | exact Bd.size_all _ | exact ints_size _ | exact bys_size _ | exact Lt.size_all _) (by first | assumption | exact sZ rfl | exact Tm.size_all _ | exact Bd.size_all _ | exact ints_size _ | exact bys_size _ | exact Lt.size_all _) (by first | omega | (simp only [List.length_map, List.length_append, List.length_cons, List.length_nil] <;> omega) | (simp <;> omega))) (by kernel_rfl) ?_)
      (refine nx (aA (gN rfl) rfl rfl rfl rfl rfl) rfl ?_)
      show AWp _ _ _ _ _ _ _
      refine aR ?_
      (refine nx (a_add (gN rfl) rfl rfl rfl rfl rfl rfl (by first | omega | (simp only [List.length_map, List.length_append, List.length_cons, List.length_nil] <;> omega) | (simp <;> omega))) rfl ?_)
      (refine nx (aM (gN rfl) rfl rfl rfl rfl rfl) rfl ?_)
      refine ⟨c.length - (k + 1), sS (k + 1) (acc ++ [u.1]) u.2.2, by omega, ⟨k + 1, acc ++ [u.1], u.2.2, rfl, by omega, by rw [List.length_append, hal]; rfl, hf, hso.1, by omega, rfl⟩, (wk_sub (s' := (0, .bp 350001 0 []) :: (6, .own (.lst ((acc ++ [u.1]).map Lt.cv)) 300032) :: (300032, .tok 50 5) :: (15, .val (scv c)) :: (16, .val (.i (c.map Se.cv).length)) :: (17, .val (.i ((k + 1 : Nat) : Int))) :: nmS u.2.2) ⟨rfl, by rw [hap]; rfl, rfl, rfl, rfl, rfl, rfl, rfl, rfl, rfl, rfl, rfl, rfl, rfl, rfl, rfl, rfl, trivial⟩).trans (wk_ren 300032 200032 rfl rfl (by kernel_rfl) (by kernel_rfl))⟩
  · have hkl : k = c.length := by
      have : ¬ k < c.length := by simpa using hlt
      omega
    subst hkl
    rw [List.drop_length] at hf
    simp only [litsF, Option.some.injEq] at hf
    subst hf
    show AWp _ _ _ _ _ _ _
    refine aS (aR ?_)
    (refine nx (aM (gN rfl) rfl rfl rfl rfl rfl) rfl ?_)
    (refine nx (aA (gN rfl) rfl rfl rfl rfl rfl) rfl ?_)
    (refine nx (aA (gN rfl) rfl rfl rfl rfl rfl) rfl ?_)
    show AWp _ _ _ _ _ _ _
    exact aT ⟨.inr rfl, _, Wk.refl _, rfl, rfl, rfl, rfl, rfl, rfl, rfl, rfl, rfl, rfl, rfl, rfl, trivial⟩
end Go.Proofs.YtglbohajmccehaaDoor

namespace Go.Proofs.YtglbohajmccehaaDoor
open Go.RowKit
set_option linter.unusedVariables false
set_option linter.unusedSimpArgs false
set_option maxRecDepth 100000
def trueS : Value := .string ⟨#[36, 116, 114, 117, 101]⟩
theorem four (w : World) (o0 o1 o2 o3 : Obj) : Below w.heap.size w ((((w.alloc o0).alloc o1).alloc o2).alloc o3) ∧ ((((w.alloc o0).alloc o1).alloc o2).alloc o3).heap.size = w.heap.size + 4 ∧ ((((w.alloc o0).alloc o1).alloc o2).alloc o3).heap[w.heap.size]? = some o0 ∧ ((((w.alloc o0).alloc o1).alloc o2).alloc o3).heap[w.heap.size + 1]? = some o1 ∧ ((((w.alloc o0).alloc o1).alloc o2).alloc o3).heap[w.heap.size + 2]? = some o2 ∧ ((((w.alloc o0).alloc o1).alloc o2).alloc o3).heap[w.heap.size + 3]? = some o3 := by
  have z1 : (w.alloc o0).heap.size = w.heap.size + 1 := by simp
  have z2 : ((w.alloc o0).alloc o1).heap.size = w.heap.size + 2 := by simp
  have z3 : (((w.alloc o0).alloc o1).alloc o2).heap.size = w.heap.size + 3 := by simp
  refine ⟨((((Below.refl _ _).alloc (Nat.le_refl _) _).alloc (by simp) _).alloc (by omega) _).alloc (by omega) _, by simp, ?_, ?_, ?_, ?_⟩
  · rw [Below.heap_alloc _ _ _ (by omega), Below.heap_alloc _ _ _ (by omega), Below.heap_alloc _ _ _ (by omega)]
    exact alloc_new _ _
  · rw [Below.heap_alloc _ _ _ (by omega), Below.heap_alloc _ _ _ (by omega), ← z1]
    exact alloc_new _ _
  · rw [Below.heap_alloc _ _ _ (by omega), ← z2]
    exact alloc_new _ _
  · rw [← z3]
    exact alloc_new _ _
theorem start_any (w : World) :
    Calls Tryd.prog 11 #[] w fun e w' => e = .returned (.agg #[.slice (some ⟨w.heap.size + 1, 0, none⟩) 1 1, .slice (some ⟨w.heap.size + 2, 0, none⟩) 1 1, .slice (some ⟨w.heap.size + 3, 0, none⟩) 1 1]) ∧ Below w.heap.size w w' ∧ w'.heap.size = w.heap.size + 4 ∧ w'.heap[w.heap.size + 1]? = some (.cells #[trueS] 9 (0, 0)) ∧ w'.heap[w.heap.size + 2]? = some (.cells #[.int .i64 0] 3 (0, 0)) ∧ w'.heap[w.heap.size + 3]? = some (.cells #[.bool true] 4 (0, 0)) := by
  go_enter Tryd.func11, Tryd.ntmps11
  go_wp2
  obtain ⟨f0, f1, f2, f3, f4, f5⟩ := four w (.cells #[.slice (some ⟨w.heap.size + 1, 0, none⟩) 1 1, .slice (some ⟨w.heap.size + 1 + 1, 0, none⟩) 1 1, .slice (some ⟨w.heap.size + 1 + 1 + 1, 0, none⟩) 1 1] 27) (.cells #[trueS] 9) (.cells #[.int .i64 0] 3) (.cells #[.bool true] 4)
  refine bodyPost_ret (results_cell_row (cs := #[.slice (some ⟨w.heap.size + 1, 0, none⟩) 1 1, .slice (some ⟨w.heap.size + 1 + 1, 0, none⟩) 1 1, .slice (some ⟨w.heap.size + 1 + 1 + 1, 0, none⟩) 1 1]) (g := w.heap.size) (t := 27) (fr := (0, 0)) rfl _ _ (d := _) rfl f2 rfl rfl rfl) rfl ?_
  exact ⟨rfl, f0, f1, f3, f4, f5⟩
theorem look_n0 {k : Nat} {av : AV} (h : look (nmI nm0) k = some av) : (k = 450001 ∧ av = .obj) ∨ (k = 35500100 ∧ av = .sl 300001 0 1 1) ∨ (k = 35500101 ∧ av = .sl 300002 0 1 1) ∨ (k = 35500102 ∧ av = .sl 300003 0 1 1) ∨ (k = 35500103 ∧ av = .mref 300004) ∨ (k = 35500104 ∧ av = .val (.sc (.map none))) ∨ (k = 300001 ∧ av = .mrow 9 1 [sv [36, 116, 114, 117, 101]]) ∨ (k = 300002 ∧ av = .mrow 3 1 [iv 0]) ∨ (k = 300003 ∧ av = .mrow 4 1 [bv true]) ∨ (k = 300004 ∧ av = .mp []) := by
  rw [look_cons] at h
  split at h
  · rename_i e; cases h; exact (.inl ⟨e.symm, rfl⟩)
  rw [look_cons] at h
  split at h
  · rename_i e; cases h; exact (.inr (.inl ⟨e.symm, rfl⟩))
  rw [look_cons] at h
  split at h
  · rename_i e; cases h; exact (.inr (.inr (.inl ⟨e.symm, rfl⟩)))
  rw [look_cons] at h
  split at h
  · rename_i e; cases h; exact (.inr (.inr (.inr (.inl ⟨e.symm, rfl⟩))))
  rw [look_cons] at h
  split at h
  · rename_i e; cases h; exact (.inr (.inr (.inr (.inr (.inl ⟨e.symm, rfl⟩)))))
  rw [look_cons] at h
  split at h
  · rename_i e; cases h; exact (.inr (.inr (.inr (.inr (.inr (.inl ⟨e.symm, rfl⟩))))))
  rw [look_cons] at h
  split at h
  · rename_i e; cases h; exact (.inr (.inr (.inr (.inr (.inr (.inr (.inl ⟨e.symm, rfl⟩)))))))
  rw [look_cons] at h
  split at h
  · rename_i e; cases h; exact (.inr (.inr (.inr (.inr (.inr (.inr (.inr (.inl ⟨e.symm, rfl⟩))))))))
  rw [look_cons] at h
  split at h
  · rename_i e; cases h; exact (.inr (.inr (.inr (.inr (.inr (.inr (.inr (.inr (.inl ⟨e.symm, rfl⟩)))))))))
  rw [look_cons] at h
  split at h
  · rename_i e; cases h; exact (.inr (.inr (.inr (.inr (.inr (.inr (.inr (.inr (.inr ⟨e.symm, rfl⟩)))))))))
  · cases h
theorem nm_sim {w w' : World} {V : UX} (hV : ∀ k v, V.f k = some v → False) {g1 g2 g3 g4 g5 : Nat} {ty : TypeId} (hB : Below w.heap.size w w') (h0 : w.heap.size ≤ g1) (h12 : g1 < g2) (h23 : g2 < g3) (h34 : g3 < g4) (h45 : g4 < g5) (hlt : g5 < w'.heap.size)
    (e1 : w'.heap[g1]? = some (.cells #[trueS] 9 (0, 0))) (e2 : w'.heap[g2]? = some (.cells #[.int .i64 0] 3 (0, 0))) (e3 : w'.heap[g3]? = some (.cells #[.bool true] 4 (0, 0))) (e4 : w'.heap[g4]? = some (.map #[] 0))
    (e5 : w'.heap[g5]? = some (.cells #[.slice (some ⟨g1, 0, none⟩) 1 1, .slice (some ⟨g2, 0, none⟩) 1 1, .slice (some ⟨g3, 0, none⟩) 1 1, .map (some g4), .map none] ty (0, 0))) :
    ∃ hv', SimG w V 0 (nmI nm0) ⟨#[], []⟩ w' (fun _ _ => False) hv' ∧ hv' 450001 = .pointer (some ⟨g5, 0, none⟩) := by
  have hcell : ∀ i, i < 5 → w'.cell? ⟨g5, i, none⟩ = (#[.slice (some ⟨g1, 0, none⟩) 1 1, .slice (some ⟨g2, 0, none⟩) 1 1, .slice (some ⟨g3, 0, none⟩) 1 1, .map (some g4), .map none] : Array Value)[i]? := fun i hi => by
    simp only [World.cell?, e5]
    simp
  obtain ⟨hv', hhv⟩ : ∃ hv' : Nat → Value, hv' = fun k => if k = 450001 then .pointer (some ⟨g5, 0, none⟩) else if k = 300001 then .slice (some ⟨g1, 0, none⟩) 1 1 else if k = 300002 then .slice (some ⟨g2, 0, none⟩) 1 1 else if k = 300003 then .slice (some ⟨g3, 0, none⟩) 1 1 else .map (some g4) := ⟨_, rfl⟩
  have hv5 : hv' 450001 = .pointer (some ⟨g5, 0, none⟩) := by rw [hhv]; simp
  have hv1 : hv' 300001 = .slice (some ⟨g1, 0, none⟩) 1 1 := by rw [hhv]; simp
  have hv2 : hv' 300002 = .slice (some ⟨g2, 0, none⟩) 1 1 := by rw [hhv]; simp
  have hv3 : hv' 300003 = .slice (some ⟨g3, 0, none⟩) 1 1 := by rw [hhv]; simp
  have hv4 : hv' 300004 = .map (some g4) := by rw [hhv]; simp
  refine ⟨hv', ⟨⟨hB.os, hB.tape, hB.output, hB.size, fun k hk _ => hB.block k hk⟩, rfl, rfl, fun d av k1 k2 => ?_, fun m o av k1 k2 k3 k4 => ?_, fun m o o' av av' k1 k2 k3 k4 k5 => ?_, fun k av k1 k2 => ?_, fun k av g k1 k2 k3 k4 => ?_, fun k k' av av' g k1 k2 k3 k4 k5 k6 k7 k8 => ?_, fun k v hk => (hV k v hk).elim, fun b o hd => hd.elim⟩, hv5⟩
  · rcases look_n0 k1 with ⟨e, _⟩ | ⟨e, _⟩ | ⟨e, _⟩ | ⟨e, _⟩ | ⟨e, _⟩ | ⟨e, _⟩ | ⟨e, _⟩ | ⟨e, _⟩ | ⟨e, _⟩ | ⟨e, _⟩ <;> omega
  · have hm : m = 350001 := by
      unfold BN at k4
      rcases look_n0 k3 with ⟨e, e2⟩ | ⟨e, e2⟩ | ⟨e, e2⟩ | ⟨e, e2⟩ | ⟨e, e2⟩ | ⟨e, e2⟩ | ⟨e, e2⟩ | ⟨e, e2⟩ | ⟨e, e2⟩ | ⟨e, e2⟩
      · omega
      all_goals cases e2
    subst hm
    have hbk : blkOf (hv' (100000 + 350001)) = g5 := by rw [show 100000 + 350001 = 450001 from rfl, hv5]; rfl
    rw [hbk]
    rcases look_n0 k1 with ⟨e, _⟩ | ⟨e, rfl⟩ | ⟨e, rfl⟩ | ⟨e, rfl⟩ | ⟨e, rfl⟩ | ⟨e, rfl⟩ | ⟨e, _⟩ | ⟨e, _⟩ | ⟨e, _⟩ | ⟨e, _⟩
    · unfold fKey at e; omega
    · have ho : o = 0 := by unfold fKey at e; omega
      subst ho
      refine ⟨.slice (some ⟨g1, 0, none⟩) 1 1, ⟨⟨by decide, by decide⟩, ?_⟩, rfl, fun i hi => ?_⟩
      · show SlV (hv' 300001) 0 1 1 _
        rw [hv1]; exact slV_all rfl (Nat.le_refl _) (.inr ⟨_, rfl⟩)
      · have hi : i < 1 := hi
        obtain rfl : i = 0 := by omega
        rw [hcell _ (by omega)]; rfl
    · have ho : o = 1 := by unfold fKey at e; omega
      subst ho
      refine ⟨.slice (some ⟨g2, 0, none⟩) 1 1, ⟨⟨by decide, by decide⟩, ?_⟩, rfl, fun i hi => ?_⟩
      · show SlV (hv' 300002) 0 1 1 _
        rw [hv2]; exact slV_all rfl (Nat.le_refl _) (.inr ⟨_, rfl⟩)
      · have hi : i < 1 := hi
        obtain rfl : i = 0 := by omega
        rw [hcell _ (by omega)]; rfl
    · have ho : o = 2 := by unfold fKey at e; omega
      subst ho
      refine ⟨.slice (some ⟨g3, 0, none⟩) 1 1, ⟨⟨by decide, by decide⟩, ?_⟩, rfl, fun i hi => ?_⟩
      · show SlV (hv' 300003) 0 1 1 _
        rw [hv3]; exact slV_all rfl (Nat.le_refl _) (.inr ⟨_, rfl⟩)
      · have hi : i < 1 := hi
        obtain rfl : i = 0 := by omega
        rw [hcell _ (by omega)]; rfl
    · have ho : o = 3 := by unfold fKey at e; omega
      subst ho
      refine ⟨.map (some _), ⟨⟨by decide, by decide⟩, hv4.symm, rfl⟩, rfl, fun i hi => ?_⟩
      have hi : i < 1 := hi
      obtain rfl : i = 0 := by omega
      rw [hcell _ (by omega)]; rfl
    · have ho : o = 4 := by unfold fKey at e; omega
      subst ho
      refine ⟨.map none, avrep_sc rfl, rfl, fun i hi => ?_⟩
      have hi : i < 1 := hi
      obtain rfl : i = 0 := by omega
      rw [hcell _ (by omega)]; rfl
    all_goals (unfold fKey at e; omega)
  · rcases look_n0 k1 with ⟨e, _⟩ | ⟨e, rfl⟩ | ⟨e, rfl⟩ | ⟨e, rfl⟩ | ⟨e, rfl⟩ | ⟨e, rfl⟩ | ⟨e, _⟩ | ⟨e, _⟩ | ⟨e, _⟩ | ⟨e, _⟩
    · unfold fKey at e; omega
    · show o + 1 ≤ o'; omega
    · show o + 1 ≤ o'; omega
    · show o + 1 ≤ o'; omega
    · show o + 1 ≤ o'; omega
    · show o + 1 ≤ o'; omega
    all_goals (unfold fKey at e; omega)
  · unfold oKey at k2
    rcases look_n0 k1 with ⟨rfl, rfl⟩ | ⟨e, _⟩ | ⟨e, _⟩ | ⟨e, _⟩ | ⟨e, _⟩ | ⟨e, _⟩ | ⟨rfl, rfl⟩ | ⟨rfl, rfl⟩ | ⟨rfl, rfl⟩ | ⟨rfl, rfl⟩
    · exact ⟨_, _, _, hv5, e5⟩
    · omega
    · omega
    · omega
    · omega
    · omega
    · rw [hv1]
      exact ⟨[trueS], ⟨rfl, .inr ⟨_, 1, #[trueS], rfl, Nat.zero_le _, e1, Nat.le_refl _, by decide, rfl, rfl⟩⟩, by decide, (fun c hc => by rw [List.mem_singleton.1 hc]; rfl), ⟨[trueS], [], rfl, rep_sc.2 ⟨rfl, rfl⟩, rfl⟩⟩
    · rw [hv2]
      exact ⟨[.int .i64 0], ⟨rfl, .inr ⟨_, 1, #[.int .i64 0], rfl, Nat.zero_le _, e2, Nat.le_refl _, by decide, rfl, rfl⟩⟩, by decide, (fun c hc => by rw [List.mem_singleton.1 hc]; rfl), ⟨[.int .i64 0], [], rfl, rep_sc.2 ⟨rfl, rfl⟩, rfl⟩⟩
    · rw [hv3]
      exact ⟨[.bool true], ⟨rfl, .inr ⟨_, 1, #[.bool true], rfl, Nat.zero_le _, e3, Nat.le_refl _, by decide, rfl, rfl⟩⟩, by decide, (fun c hc => by rw [List.mem_singleton.1 hc]; rfl), ⟨[.bool true], [], rfl, rep_sc.2 ⟨rfl, rfl⟩, rfl⟩⟩
    · exact ⟨_, #[], 0, hv4, e4, rfl, (fun e he => by simp at he), by simp⟩
  · unfold oKey at k2
    have hk : ∃ j, hb (hv' k) = some j ∧ w.heap.size ≤ j ∧ j < w'.heap.size := by
      rcases look_n0 k1 with ⟨rfl, rfl⟩ | ⟨e, _⟩ | ⟨e, _⟩ | ⟨e, _⟩ | ⟨e, _⟩ | ⟨e, _⟩ | ⟨rfl, rfl⟩ | ⟨rfl, rfl⟩ | ⟨rfl, rfl⟩ | ⟨rfl, rfl⟩
      · exact ⟨g5, by rw [hv5]; rfl, by omega, by omega⟩
      · omega
      · omega
      · omega
      · omega
      · omega
      · exact ⟨g1, by rw [hv1]; rfl, by omega, by omega⟩
      · exact ⟨g2, by rw [hv2]; rfl, by omega, by omega⟩
      · exact ⟨g3, by rw [hv3]; rfl, by omega, by omega⟩
      · exact ⟨g4, by rw [hv4]; rfl, by omega, by omega⟩
    obtain ⟨j, f1, f2, f3⟩ := hk
    rw [f1] at k4
    cases k4
    exact ⟨.inl f2, f3, fun o _ h => h⟩
  · unfold oKey at k3 k4
    have hk : ∀ {k av}, look (nmI nm0) k = some av → 100000 ≤ k ∧ k < 500000 → (k = 450001 ∧ hb (hv' k) = some g5) ∨ (k = 300001 ∧ hb (hv' k) = some g1) ∨ (k = 300002 ∧ hb (hv' k) = some g2) ∨ (k = 300003 ∧ hb (hv' k) = some g3) ∨ (k = 300004 ∧ hb (hv' k) = some g4) := fun {k av} f1 f2 => by
      rcases look_n0 f1 with ⟨rfl, rfl⟩ | ⟨e, _⟩ | ⟨e, _⟩ | ⟨e, _⟩ | ⟨e, _⟩ | ⟨e, _⟩ | ⟨rfl, rfl⟩ | ⟨rfl, rfl⟩ | ⟨rfl, rfl⟩ | ⟨rfl, rfl⟩
      · exact .inl ⟨rfl, by rw [hv5]; rfl⟩
      · omega
      · omega
      · omega
      · omega
      · omega
      · exact .inr (.inl ⟨rfl, by rw [hv1]; rfl⟩)
      · exact .inr (.inr (.inl ⟨rfl, by rw [hv2]; rfl⟩))
      · exact .inr (.inr (.inr (.inl ⟨rfl, by rw [hv3]; rfl⟩)))
      · exact .inr (.inr (.inr (.inr ⟨rfl, by rw [hv4]; rfl⟩)))
    intro e9
    have f8 : ∀ {j : Nat}, hb (hv' k) = some j → j = g := fun {j} e => by rw [e] at k8; cases k8; rfl
    have f9 : ∀ {j : Nat}, hb (hv' k') = some j → j = g := fun {j} e => by rw [e] at e9; cases e9; rfl
    rcases hk k1 k3 with ⟨p1, p2⟩ | ⟨p1, p2⟩ | ⟨p1, p2⟩ | ⟨p1, p2⟩ | ⟨p1, p2⟩ <;> rcases hk k2 k4 with ⟨q1, q2⟩ | ⟨q1, q2⟩ | ⟨q1, q2⟩ | ⟨q1, q2⟩ | ⟨q1, q2⟩ <;> (have := f8 p2; have := f9 q2; omega)

section
variable {P : Program} {w0 : World} {U0 : UX} {nt : Nat} {s : AS} {a : Act} {w w' : World} {M : Md} {D : Nat → Nat → Prop} {hv : Nat → Value}
theorem list_value {ops : Array Oper} {o : Oper} {os : List Oper} {Q : Exit → Act → World → Prop} {d : Nat} {v : Value} (hg : o.guard = none) (hd : o.dst = some d) (ha : a.defers = []) (he : (execOp a.eval o).run P w = .ok (.value v) w') (h : wpListIn (wideR M.r) 1 P ops Q os (wdA (a.put (some d) v) M.ds) w') : wpListIn (wideR M.r) 1 P ops Q (o :: os) (wdA a M.ds) w := by
  unfold wpListIn
  rw [if_pos (by simp [Region.wanted, hg])]
  refine op_in ?_ ha
  unfold Oper.wp
  rw [he, Oper.upon_value, hd]
  exact ⟨ha, h⟩
theorem list_call {ops : Array Oper} {o : Oper} {os : List Oper} {Q : Exit → Act → World → Prop} {d : Nat} {f : FuncId} {xs : Array Operand} {ts : Array TypeId} (hg : o.guard = none) (hd : o.dst = some d) (h1 : EntF P f) (hoo : o.op = .call { callee := .value (.func f), args := xs, argTypes := ts }) {R : Value → World → Prop} (hc : Calls P f (xs.map a.eval) w fun e w' => ∃ v, e = .returned v ∧ R v w') (h : ∀ v w', R v w' → wpListIn (wideR M.r) 1 P ops Q os (wdA (a.put (some d) v) M.ds) w') : wpListIn (wideR M.r) 1 P ops Q (o :: os) (wdA a M.ds) w := by
  have he : (execOp a.eval o).run P w = .ok (.enter f (xs.map a.eval)) w := by
    have hf : a.eval (.func f) = .func (.func f) #[] #[] := rfl
    have hen := h1 (xs.map a.eval) w
    generalize a.eval = ρ at hf hen ⊢
    simp [execOp, hoo, resolve, invoke, Deferred.ofValue, hf, hen]
  unfold wpListIn
  rw [if_pos (by simp [Region.wanted, hg])]
  refine ⟨fun _ _ => trivial, ?_⟩
  rw [wd_eval, Oper.semAt_eq _ _ _ (fun c hc => by rw [hoo] at hc; cases hc), he]
  refine ⟨(fun hh => by cases hh), callsIn_R (hc.mono ?_)⟩
  rintro e w' ⟨v, rfl, hR⟩
  show wpListIn _ _ _ _ _ _ _ _
  rw [hd, ← wd_put]
  exact h v w' hR
theorem eval_put {d : Nat} {v : Value} (h : d < a.tmps.size) : (a.put (some d) v).eval (.tmp d) = v := by
  simp [Act.put, Act.eval, h]
theorem eval_put_ne {d e : Nat} {v : Value} (h : d ≠ e) : (a.put (some d) v).eval (.tmp e) = a.eval (.tmp e) := by
  simp [Act.put, Act.eval, h]
theorem put_size {d : Option Nat} {v : Value} : (a.put d v).tmps.size = a.tmps.size := by
  cases d <;> simp [Act.put]
theorem SimG.frz (h : SimG w0 U0 nt s a w D hv) {n e z : Nat} {l : List CV} {v : Value} (hm : look s n = some (.mrow e z l)) (hrn : RN n) (hsl : SlV (hv n) 0 l.length z v) (hloc : ∀ b, ¬ U0.x b) {s' : AS} (hsub' : Sub s s') (hno : ∀ av, look s' n ≠ some av) : ∃ D', SimG w0 U0 nt s' a w D' hv ∧ VRep (Us w0 U0 D') w (.lst l) v ∧ ∀ b o, D b o → D' b o := by
  obtain ⟨ao, m, cap, ao', h1, h2, h3, h4, h6, h7⟩ := hsl
  obtain ⟨xs, f1, f2, f3, f4⟩ := h.mrow hm hrn
  have hrn' := hrn
  unfold RN at hrn'
  have hok : oKey n := ⟨by omega, by omega⟩
  rw [Nat.sub_zero] at h2
  rcases f1.2 with ⟨e1, e2⟩ | ⟨g, cap', cur, e1, _, e3, e4, e5, e6, e7⟩
  · have hl0 : l = [] := List.eq_nil_of_length_eq_zero e2
    subst hl0
    rw [e1] at h1
    injection h1 with h1 h8 h9
    subst h1; subst h8; subst h9
    have hao : ao' = none := h7.2 rfl
    refine ⟨D, h.sub hsub', ?_, fun _ _ h => h⟩
    rw [h2, hao]
    exact vrep_lst.2 ⟨none, 0, 0, rfl, rfl, Nat.le_refl _, by unfold maxLen; omega, fun _ => ⟨rfl, rfl⟩, [], .inl rfl, rfl⟩
  · obtain rfl : cap = cap' := by rw [e1] at h1; injection h1 with k1 k2 k3; exact k3.symm
    obtain rfl : ao = some ⟨g, 0, none⟩ := by rw [e1] at h1; injection h1 with k1 k2 k3; exact k1.symm
    have hgb : hb (hv n) = some g := by rw [e1]; rfl
    obtain ⟨b1, b2, b3⟩ := h.blk n _ g hm hok (by simp) hgb
    have hge : w0.heap.size ≤ g := by
      rcases b1 with b1 | b1
      · exact b1
      · exact absurd b1.2 (hloc g)
    have hG := (h.sub hsub').moreD (g := g) b2 fun k av h10 h11 h12 h13 => h.disj n k _ av g hm (hsub' _ _ h10) hok h11 (by simp) h12 (fun e => hno av (e ▸ h10)) hgb h13
    refine ⟨_, hG, ?_, fun _ _ h => .inl h⟩
    rw [h2, h4 rfl]
    have hkp : ∀ b o v, Us w0 U0 D b o → w.cell? ⟨b, o, none⟩ = some v → Us w0 U0 (fun b o => D b o ∨ b = g) b o ∧ w.cell? ⟨b, o, none⟩ = some v := fun b o v hu hc => ⟨hu.imp id fun h => ⟨h.1, .inl h.2⟩, hc⟩
    refine vrep_lst.2 ⟨_, l.length, cap, rfl, rfl, by omega, by omega, (fun h10 => by cases h10), xs, .inr ⟨g, 0, rfl, fun i hi => ⟨.inr ⟨hge, .inr rfl⟩, ?_⟩⟩, Sq.keep hkp f4⟩
    have hlt : i < l.length * z := by rw [f1.1] at hi; exact hi
    rw [Nat.zero_add, own_cell f1 (by rw [e1]; rfl) hlt]
theorem wk_three {n o1 r1 r2 r3 e1 e2 e3 : Nat} {l1 l2 l3 : List CV} (hbn : BN n) (ho : look s (100000 + n) = some .obj) (hq : Nat.ble (o1 + 3) 100 = true) (f1 : look s (fKey n o1) = some (.sl r1 0 l1.length 1)) (f2 : look s (fKey n (o1 + 1)) = some (.sl r2 0 l2.length 1)) (f3 : look s (fKey n (o1 + 2)) = some (.sl r3 0 l3.length 1)) (m1 : look s r1 = some (.mrow e1 1 l1)) (m2 : look s r2 = some (.mrow e2 1 l2)) (m3 : look s r3 = some (.mrow e3 1 l3)) (hloc : ∀ b, ¬ U0.x b) (h12 : r1 ≠ r2) (h13 : r1 ≠ r3) (h23 : r2 ≠ r3)
    {s' : AS} (hsub : SubL s s') (ho' : look s' (100000 + n) = some .obj) (k1 : noKey s' r1 = true) (k2 : noKey s' r2 = true) (k3 : noKey s' r3 = true) (hnf : ∀ o av, look s' (fKey n o) = some av → o < 100 → False) : Wk w0 U0 nt s ((fKey n o1, .val (.row [.lst l1, .lst l2, .lst l3])) :: s') := by
  rintro a w ⟨D, hv, h⟩
  have hq := Nat.le_of_ble_eq_true hq
  obtain ⟨v1, ⟨a1, b1⟩, c1, d1⟩ := h.fld n o1 _ f1 (by omega) ho hbn
  obtain ⟨v2, ⟨a2, b2⟩, c2, d2⟩ := h.fld n (o1 + 1) _ f2 (by omega) ho hbn
  obtain ⟨v3, ⟨a3, b3⟩, c3, d3⟩ := h.fld n (o1 + 2) _ f3 (by omega) ho hbn
  have hno : ∀ {n : Nat}, noKey s' n = true → ∀ av, look s' n ≠ some av := fun {n} hk av h8 => by
    have h9 := look_mem h8
    unfold noKey at hk
    rw [List.all_eq_true] at hk
    have := hk _ h9
    simp at this
  have hsub' := hsub.sub
  -- drop the first, then the second, then the third
  have hA : Sub s (s' ++ [(r2, .mrow e2 1 l2), (r3, .mrow e3 1 l3)]) := fun k av hk => by
    rcases look_app s' [(r2, .mrow e2 1 l2), (r3, .mrow e3 1 l3)] k with ⟨e, _⟩ | ⟨e, _⟩
    · rw [e] at hk; exact hsub' _ _ hk
    · rw [e, look_cons] at hk
      split at hk
      · rename_i e; cases hk; rw [← e]; exact m2
      · rw [look_cons] at hk
        split at hk
        · rename_i e; cases hk; rw [← e]; exact m3
        · cases hk
  have hA' : ∀ av, look (s' ++ [(r2, .mrow e2 1 l2), (r3, .mrow e3 1 l3)]) r1 ≠ some av := fun av hk => by
    rcases look_app s' [(r2, .mrow e2 1 l2), (r3, .mrow e3 1 l3)] r1 with ⟨e, _⟩ | ⟨e, _⟩
    · rw [e] at hk; exact hno k1 _ hk
    · rw [e, lN (Ne.symm h12), lN (Ne.symm h13)] at hk
      cases hk
  obtain ⟨D1, g1, V1, u1⟩ := h.frz m1 a1 b1 hloc hA hA'
  have lk : ∀ k, k = r2 ∨ k = r3 → look (s' ++ [(r2, .mrow e2 1 l2), (r3, .mrow e3 1 l3)]) k = look [(r2, AV.mrow e2 1 l2), (r3, .mrow e3 1 l3)] k := fun k hk => by
    rcases look_app s' [(r2, .mrow e2 1 l2), (r3, .mrow e3 1 l3)] k with ⟨e, av, hm⟩ | ⟨e, _⟩
    · exfalso
      rcases hk with rfl | rfl
      · unfold noKey at k2; rw [List.all_eq_true] at k2; have := k2 _ hm; simp at this
      · unfold noKey at k3; rw [List.all_eq_true] at k3; have := k3 _ hm; simp at this
    · exact e
  have hB : Sub (s' ++ [(r2, .mrow e2 1 l2), (r3, .mrow e3 1 l3)]) (s' ++ [(r3, .mrow e3 1 l3)]) := fun k av hk => by
    rcases look_app s' [(r3, .mrow e3 1 l3)] k with ⟨e, hw⟩ | ⟨e, _⟩
    · rw [e] at hk
      rcases look_app s' [(r2, .mrow e2 1 l2), (r3, .mrow e3 1 l3)] k with ⟨e', _⟩ | ⟨e', hw'⟩
      · rw [e']; exact hk
      · exact absurd hw hw'
    · rw [e, look_cons] at hk
      split at hk
      · rename_i e; cases hk; rw [← e, lk _ (.inr rfl), lN h23, lS]
      · cases hk
  have hB' : ∀ av, look (s' ++ [(r3, .mrow e3 1 l3)]) r2 ≠ some av := fun av hk => by
    rcases look_app s' [(r3, .mrow e3 1 l3)] r2 with ⟨e, _⟩ | ⟨e, _⟩
    · rw [e] at hk; exact hno k2 _ hk
    · rw [e, lN (Ne.symm h23)] at hk
      cases hk
  obtain ⟨D2, g2, V2, u2⟩ := g1.frz (n := r2) (e := e2) (z := 1) (l := l2) (by rw [lk _ (.inl rfl), lS]) a2 b2 hloc hB hB'
  obtain ⟨D3, g3, V3, u3⟩ := g2.frz (s' := s') (n := r3) (e := e3) (z := 1) (l := l3) (by
    rcases look_app s' [(r3, .mrow e3 1 l3)] r3 with ⟨e, av, hm⟩ | ⟨e, _⟩
    · exfalso; unfold noKey at k3; rw [List.all_eq_true] at k3; have := k3 _ hm; simp at this
    · rw [e, lS]) a3 b3 hloc (fun k av hk => by
    rcases look_app s' [(r3, .mrow e3 1 l3)] k with ⟨e, _⟩ | ⟨e, hw⟩
    · rw [e]; exact hk
    · exact absurd (⟨av, look_mem hk⟩ : wr s' k) hw) (hno k3)
  have kp : ∀ {D1 D2 : Nat → Nat → Prop}, (∀ b o, D1 b o → D2 b o) → ∀ b o v, Us w0 U0 D1 b o → w.cell? ⟨b, o, none⟩ = some v → Us w0 U0 D2 b o ∧ w.cell? ⟨b, o, none⟩ = some v := fun {D1 D2} hD b o v hu hc => ⟨hu.imp id fun h => ⟨h.1, hD _ _ h.2⟩, hc⟩
  have V1 := (V1.keep (kp u2)).keep (kp u3)
  have V2 := V2.keep (kp u3)
  obtain ⟨p1, q1, t1, rfl, w11, w12, w13, w14, ys1, w15, w16⟩ := vrep_lst.1 V1
  obtain ⟨p2, q2, t2, rfl, w21, w22, w23, w24, ys2, w25, w26⟩ := vrep_lst.1 V2
  obtain ⟨p3, q3, t3, rfl, w31, w32, w33, w34, ys3, w35, w36⟩ := vrep_lst.1 V3
  refine ⟨D3, hv, g3.addF (v := .agg #[.slice p1 q1 t1, .slice p2 q2 t2, .slice p3 q3 t3]) hbn ho' (by omega) (avrep_val (vrep_row.2 ⟨[.slice p1 q1 t1, .slice p2 q2 t2, .slice p3 q3 t3], rfl, ?_⟩)) ?_ (fun i hi => ?_) (fun o av h1 h2 => (hnf o av h1 h2).elim)⟩
  · exact ⟨[.slice p1 q1 t1], [.slice p2 q2 t2, .slice p3 q3 t3], rfl, rep_lst.2 ⟨p1, q1, t1, rfl, w11, w12, w13, w14, ys1, w15, w16⟩, [.slice p2 q2 t2], [.slice p3 q3 t3], rfl, rep_lst.2 ⟨p2, q2, t2, rfl, w21, w22, w23, w24, ys2, w25, w26⟩, [.slice p3 q3 t3], [], rfl, rep_lst.2 ⟨p3, q3, t3, rfl, w31, w32, w33, w34, ys3, w35, w36⟩, rfl⟩
  · rfl
  · have hi : i < 3 := hi
    have z1 := d1 0 (by show 0 < 1; omega)
    have z2 := d2 0 (by show 0 < 1; omega)
    have z3 := d3 0 (by show 0 < 1; omega)
    rcases (by omega : i = 0 ∨ i = 1 ∨ i = 2) with rfl | rfl | rfl
    · rw [z1]; rfl
    · rw [show o1 + 1 = o1 + 1 + 0 from rfl, z2]; rfl
    · rw [show o1 + 2 = o1 + 2 + 0 from rfl, z3]; rfl
end
theorem awp_names {w0 : World} {U0 : UX} {nt : Nat} {s : AS} {id : Nat} {o0 o1 o2 o3 o4 : Oper} {Q : Exit → AS → Prop} (g0 : o0.guard = none) (g1 : o1.guard = none) (g2 : o2.guard = none) (g3 : o3.guard = none) (g4 : o4.guard = none) (d0 : o0.dst = some 11) (d1 : o1.dst = some 12) (d2 : o2.dst = some 13) (d3 : o3.dst = some 14) (d4 : o4.dst = some 5)
    (c0 : o0.op = .call { callee := .value (.func 11), args := #[], argTypes := #[] }) (c1 : o1.op = .makeMap 79 none) (c2 : o2.op = .build 82 #[(0, .tmp 11), (1, .tmp 12)]) (c3 : o3.op = .box 82 (.tmp 13)) (c4 : o4.op = .assign (.tmp 14))
    (hnt : 14 < nt) (hN : noRefB s (newN [] (kO (nmI nm0)) (kO (nmI nm0))) = true) (hnb : ∀ k v, U0.f k = some v → hasN (kO (nmI nm0)) k = true → False) (h : Q .normal ((5, .bp 350001 0 []) :: (14, ⟨99, .i 0, 0, 0, []⟩) :: (13, ⟨99, .i 0, 0, 0, []⟩) :: (12, ⟨99, .i 0, 0, 0, []⟩) :: (11, ⟨99, .i 0, 0, 0, []⟩) :: (nmI nm0 ++ s))) : AWp Tryd.prog w0 U0 nt (.region id [o0, o1, o2, o3, o4].toArray false) Q s := by
  rintro M a w ⟨D, hv, hS⟩
  refine wpIn_region_lit ?_
  obtain ⟨V, x1, x2, x3, x4, x5, x6⟩ := hS.lend (pre := []) (fun k av hk => by cases hk) rfl
  have hsz := hS.size
  refine list_call (R := fun v w' => v = .agg #[.slice (some ⟨w.heap.size + 1, 0, none⟩) 1 1, .slice (some ⟨w.heap.size + 2, 0, none⟩) 1 1, .slice (some ⟨w.heap.size + 3, 0, none⟩) 1 1] ∧ Below w.heap.size w w' ∧ w'.heap.size = w.heap.size + 4 ∧ w'.heap[w.heap.size + 1]? = some (.cells #[trueS] 9 (0, 0)) ∧ w'.heap[w.heap.size + 2]? = some (.cells #[.int .i64 0] 3 (0, 0)) ∧ w'.heap[w.heap.size + 3]? = some (.cells #[.bool true] 4 (0, 0))) g0 d0 (ent_of Tryd.func11 rfl rfl) c0 (by rw [show Array.map a.eval #[] = #[] from by simp]; exact (start_any w).mono fun e w' he => ⟨_, he.1, rfl, he.2⟩) ?_
  rintro v w1 ⟨rfl, hB, hz, e1, e2, e3⟩
  -- the map
  have m1 : (execOp (a.put (some 11) (.agg #[.slice (some ⟨w.heap.size + 1, 0, none⟩) 1 1, .slice (some ⟨w.heap.size + 2, 0, none⟩) 1 1, .slice (some ⟨w.heap.size + 3, 0, none⟩) 1 1])).eval o1).run Tryd.prog w1 = .ok (.value (.map (some w1.heap.size))) (w1.alloc (.map #[] 0)) := by
    generalize (a.put _ _).eval = ρ
    simp [execOp, c1, Instr.makeMap, run_newObj_alloc]
  refine list_value g1 d1 hS.dfr m1 ?_
  have hw2 : (w1.alloc (.map #[] 0)).heap.size = w.heap.size + 5 := by simp [hz]
  obtain ⟨a2, ha2⟩ : ∃ a2, a2 = (a.put (some 11) (.agg #[.slice (some ⟨w.heap.size + 1, 0, none⟩) 1 1, .slice (some ⟨w.heap.size + 2, 0, none⟩) 1 1, .slice (some ⟨w.heap.size + 3, 0, none⟩) 1 1])).put (some 12) (.map (some w1.heap.size)) := ⟨_, rfl⟩
  have t11 : a2.eval (.tmp 11) = .agg #[.slice (some ⟨w.heap.size + 1, 0, none⟩) 1 1, .slice (some ⟨w.heap.size + 2, 0, none⟩) 1 1, .slice (some ⟨w.heap.size + 3, 0, none⟩) 1 1] := by
    rw [ha2, eval_put_ne (by decide), eval_put (by omega)]
  have t12 : a2.eval (.tmp 12) = .map (some (w.heap.size + 4)) := by
    rw [ha2, eval_put (by rw [put_size]; omega), hz]
  have s2 : a2.tmps.size = nt := by rw [ha2, put_size, put_size, hsz]
  rw [← ha2]
  have m2 : (execOp a2.eval o2).run Tryd.prog (w1.alloc (.map #[] 0)) = .ok (.value (.agg #[.slice (some ⟨w.heap.size + 1, 0, none⟩) 1 1, .slice (some ⟨w.heap.size + 2, 0, none⟩) 1 1, .slice (some ⟨w.heap.size + 3, 0, none⟩) 1 1, .map (some (w.heap.size + 4)), .map none])) (w1.alloc (.map #[] 0)) := by
    have := run_build (P := Tryd.prog) (w1.alloc (.map #[] 0)) 82 #[(0, a2.eval (.tmp 11)), (1, a2.eval (.tmp 12))] #[.slice (some ⟨w.heap.size + 1, 0, none⟩) 1 1, .slice (some ⟨w.heap.size + 2, 0, none⟩) 1 1, .slice (some ⟨w.heap.size + 3, 0, none⟩) 1 1, .map (some (w.heap.size + 4)), .map none] (by rw [t11, t12]; rfl)
    generalize a2.eval = ρ at this ⊢
    simp [execOp, c2, this]
  refine list_value g2 d2 (by rw [ha2]; exact hS.dfr) m2 ?_
  obtain ⟨a3, ha3⟩ : ∃ a3, a3 = a2.put (some 13) (.agg #[.slice (some ⟨w.heap.size + 1, 0, none⟩) 1 1, .slice (some ⟨w.heap.size + 2, 0, none⟩) 1 1, .slice (some ⟨w.heap.size + 3, 0, none⟩) 1 1, .map (some (w.heap.size + 4)), .map none]) := ⟨_, rfl⟩
  have t13 : a3.eval (.tmp 13) = .agg #[.slice (some ⟨w.heap.size + 1, 0, none⟩) 1 1, .slice (some ⟨w.heap.size + 2, 0, none⟩) 1 1, .slice (some ⟨w.heap.size + 3, 0, none⟩) 1 1, .map (some (w.heap.size + 4)), .map none] := by
    rw [ha3, eval_put (by omega)]
  have s3 : a3.tmps.size = nt := by rw [ha3, put_size, s2]
  rw [← ha3]
  have m3 : (execOp a3.eval o3).run Tryd.prog (w1.alloc (.map #[] 0)) = .ok (.value (.pointer (some ⟨w.heap.size + 5, 0, none⟩))) ((w1.alloc (.map #[] 0)).alloc (.cells #[.slice (some ⟨w.heap.size + 1, 0, none⟩) 1 1, .slice (some ⟨w.heap.size + 2, 0, none⟩) 1 1, .slice (some ⟨w.heap.size + 3, 0, none⟩) 1 1, .map (some (w.heap.size + 4)), .map none] 82)) := by
    generalize a3.eval = ρ at t13 ⊢
    simp [execOp, c3, Instr.box, run_newVar, t13, hw2, Value.cells]
  refine list_value g3 d3 (by rw [ha3, ha2]; exact hS.dfr) m3 ?_
  obtain ⟨w3, hw3⟩ : ∃ w3, w3 = (w1.alloc (.map #[] 0)).alloc (.cells #[.slice (some ⟨w.heap.size + 1, 0, none⟩) 1 1, .slice (some ⟨w.heap.size + 2, 0, none⟩) 1 1, .slice (some ⟨w.heap.size + 3, 0, none⟩) 1 1, .map (some (w.heap.size + 4)), .map none] 82) := ⟨_, rfl⟩
  rw [← hw3]
  have m4 : (execOp (a3.put (some 14) (.pointer (some ⟨w.heap.size + 5, 0, none⟩))).eval o4).run Tryd.prog w3 = .ok (.value (.pointer (some ⟨w.heap.size + 5, 0, none⟩))) w3 := by
    have := eval_put (a := a3) (d := 14) (v := .pointer (some ⟨w.heap.size + 5, 0, none⟩)) (by omega)
    generalize (a3.put _ _).eval = ρ at this ⊢
    simp [execOp, c4, this]
  refine list_value g4 d4 (by rw [ha3, ha2]; exact hS.dfr) m4 ?_
  -- what is known now
  have z3 : w3.heap.size = w.heap.size + 6 := by rw [hw3]; simp [hz]
  have b3 : Below w.heap.size w w3 := by rw [hw3]; exact (hB.alloc (by omega) _).alloc (by omega) _
  have q5 : w3.heap[w.heap.size + 5]? = some (.cells #[.slice (some ⟨w.heap.size + 1, 0, none⟩) 1 1, .slice (some ⟨w.heap.size + 2, 0, none⟩) 1 1, .slice (some ⟨w.heap.size + 3, 0, none⟩) 1 1, .map (some (w.heap.size + 4)), .map none] 82 (0, 0)) := by rw [hw3, ← hw2]; exact alloc_new _ _
  have q4 : w3.heap[w.heap.size + 4]? = some (.map #[] 0) := by rw [hw3, Below.heap_alloc _ _ _ (by omega), ← hz]; exact alloc_new _ _
  have qq : ∀ k, k < w.heap.size + 4 → w3.heap[k]? = w1.heap[k]? := fun k hk => by rw [hw3, Below.heap_alloc _ _ _ (by omega), Below.heap_alloc _ _ _ (by omega)]
  obtain ⟨hv', n1, n2⟩ := nm_sim (V := V) (fun k v hk => by have := x1 k v hk; cases this) b3 (g1 := w.heap.size + 1) (g2 := w.heap.size + 2) (g3 := w.heap.size + 3) (g4 := w.heap.size + 4) (g5 := w.heap.size + 5) (by omega) (by omega) (by omega) (by omega) (by omega) (by omega) (by rw [qq _ (by omega)]; exact e1) (by rw [qq _ (by omega)]; exact e2) (by rw [qq _ (by omega)]; exact e3) q4 q5
  obtain ⟨D2, hv2, h8, h9, _⟩ := hS.back (pre := []) (post := nmI nm0) (fun k av hk => by cases hk) rfl (by kernel_rfl) rfl (noRefB_spec hN) (fun k v h1 h2 => (hnb k v h1 h2).elim) x3 x4 x5 x2 n1
  have hp : AVRep (Us w0 U0 D2) w3 hv2 (LiveN (nmI nm0 ++ s)) (.bp 350001 0 []) (.pointer (some ⟨w.heap.size + 5, 0, none⟩)) := h9 _ _ rfl (by
    refine ⟨.inr ⟨by decide, by decide⟩, ?_⟩
    show _ = Value.pointer (some ⟨blkOf (hv' (100000 + 350001)), 0, none⟩)
    rw [show 100000 + 350001 = 450001 from rfl, n2]; rfl)
  have hj : ∀ {hv : Nat → Value} {lv : Nat → Prop} {U : Nat → Nat → Prop} {w : World} (v : Value), AVRep U w hv lv ⟨99, .i 0, 0, 0, []⟩ v := fun v => by
    unfold AVRep
    simp
  have r1 := h8.put (d := 11) (by omega) (by omega) (hj (.agg #[.slice (some ⟨w.heap.size + 1, 0, none⟩) 1 1, .slice (some ⟨w.heap.size + 2, 0, none⟩) 1 1, .slice (some ⟨w.heap.size + 3, 0, none⟩) 1 1]))
  have r2 := r1.put (d := 12) (by omega) (by omega) (hj (.map (some w1.heap.size)))
  rw [← ha2] at r2
  have r3 := r2.put (d := 13) (by omega) (by omega) (hj (.agg #[.slice (some ⟨w.heap.size + 1, 0, none⟩) 1 1, .slice (some ⟨w.heap.size + 2, 0, none⟩) 1 1, .slice (some ⟨w.heap.size + 3, 0, none⟩) 1 1, .map (some (w.heap.size + 4)), .map none]))
  rw [← ha3] at r3
  have r4 := r3.put (d := 14) (by omega) (by omega) (hj (.pointer (some ⟨w.heap.size + 5, 0, none⟩)))
  have r5 := r4.put (d := 5) (av := .bp 350001 0 []) (v := .pointer (some ⟨w.heap.size + 5, 0, none⟩)) (by omega) (by omega) (hp.move (fun _ _ _ h1 h2 => ⟨h1, h2⟩) (fun e => by cases e) (fun _ => rfl))
  exact ⟨_, rfl, _, h, _, _, r5⟩
def len8 (n : Nat) : Int := if n = 0 then 0 else if n = 1 then 1 else if n < 4 then 2 else if n < 8 then 3 else 4
section
variable {α : Type} (lt : α → α → Bool) (a : Nat)
def sink : Nat → List α → List α
  | 0, L => L
  | j + 1, L => match L[j + 1]?, L[j]? with
    | some x, some y => if a < j + 1 ∧ lt x y = true then sink j ((L.set (j + 1) y).set j x) else L
    | _, _ => L
def isortN : Nat → Nat → List α → List α
  | 0, _, L => L
  | n + 1, i, L => isortN n (i + 1) (sink lt a i L)
end

def ltC (cmp : Bd → Bd → Int) (x y : Bd) : Bool := decide (cmp x y < 0)
end Go.Proofs.YtglbohajmccehaaDoor
namespace Go.Proofs.YtglbohajmccehaaDoor
open Go.RowKit
set_option linter.unusedVariables false
set_option linter.unusedSimpArgs false
def fineB (l : List Tm) : Bool := l.all fun t => decide (0 ≤ smallT t 60 20)

theorem PsT.at {w : World} {base : Nat} {a : Option Addr} {n c : Nat} {ps : List (List Int)} (h : PsT w base (.slice a n c) ps) {i : Nat} (hi : i < ps.length) :
    ∃ (b off : Nat) (x : Pr), a = some ⟨b, off, none⟩ ∧ ps[i]? = some x.p ∧ x.ok (fun b => base ≤ b) w ∧ w.cell? ⟨b, off + i, none⟩ = some (.slice x.a x.n x.c) := by
  obtain ⟨xs, h1, h2, h3⟩ := h
  obtain ⟨a', c', e1, e2, e3, e4, e5⟩ := ownsRow_cs h1
  cases e1
  have hxl : xs.length = ps.length := by rw [← h2, List.length_map]
  have hix : i < xs.length := by omega
  rcases e5 with h | ⟨b, off, ha, hlt, hc⟩
  · rw [List.map_eq_nil_iff] at h; rw [h] at hix; simp at hix
  · refine ⟨b, off, xs[i], ha, ?_, (h3 _ (List.getElem_mem hix)).keep fun b h _ => ⟨h.1, rfl⟩, ?_⟩
    · rw [← h2, List.getElem?_map, List.getElem?_eq_getElem hix]; rfl
    · rw [hc i (by rw [List.length_map]; exact hix), List.getElem?_map, List.getElem?_eq_getElem hix]; rfl

theorem Pr.ok.at {U : Nat → Prop} {w : World} {x : Pr} (h : x.ok U w) {i : Nat} (hi : i < x.n) : ∃ b off z, x.a = some ⟨b, off, none⟩ ∧ U b ∧ b < w.heap.size ∧ x.p[i]? = some z ∧ w.cell? ⟨b, off + i, none⟩ = some (.int .i64 z) := by
  obtain ⟨h1, h2, h3, h4, h5⟩ := h
  have hip : i < x.p.length := by omega
  rcases h5 with h | ⟨b, off, ha, hu, hlt, hc⟩
  · unfold ints at h; rw [List.map_eq_nil_iff] at h; rw [h] at hip; simp at hip
  · refine ⟨b, off, x.p[i], ha, hu, hlt, List.getElem?_eq_getElem hip, ?_⟩
    rw [hc i (by unfold ints; rw [List.length_map]; exact hip)]
    unfold ints
    rw [List.getElem?_map, List.getElem?_eq_getElem hip]; rfl

def tm0 : Tm := .mk 1 [.mk (-1) [], .mk 2 []]
end Go.Proofs.YtglbohajmccehaaDoor
namespace Go.Proofs.YtglbohajmccehaaDoor
open Go.RowKit
set_option linter.unusedVariables false
set_option linter.unusedSimpArgs false
set_option maxRecDepth 100000

def cmpB (x y : Bd) : Int := cmpZ x.v y.v
def idleB (b : Bd) : Bool := decide (b.t.f < 0) && decide (-1 - b.t.f = b.v)
def idxB (q : Bd → Bool) : List Bd → Nat → Int
  | [], _ => -1
  | b :: l, i => if q b then (i : Int) else idxB q l (i + 1)
def ltL (cmp : Lt → Lt → Int) (x y : Lt) : Bool := decide (cmp x y < 0)
def cmpS (x y : Lt) : Int := if cmpT x.a y.a ≠ 0 then cmpT x.a y.a else cmpT x.b y.b
def othL (l : Lt) : Lt := ⟨l.neg, l.b, l.a⟩
def trnL (l : Lt) : Lt := if 0 ≤ cmpT l.a l.b then l else othL l
def holdB (l : Lt) : Bool := !l.neg && sameT l.a l.b
def chkL (L : List Lt) (i : Nat) : Bool := match L[i]?, L[i - 1]? with
  | some x, some y => decide (0 < i) && ((!(x.neg == y.neg)) && decide (cmpS x y = 0))
  | _, _ => false
def adjB (L : List Lt) : Bool := (List.range L.length).any (chkL L)
def srtL (L : List Lt) : List Lt := isortN (ltL cmpS) 0 (L.length - 1) 1 L
def tautP (c : List Lt) : Bool := c.any holdB || adjB (srtL (c.map trnL))
def okC (c : List Lt) : Prop := ∀ l ∈ c, l.a.rng ∧ l.b.rng
def wtC (c : List Lt) : Nat := (c.map fun l => l.a.size + l.b.size).sum
-- 
theorem cWeight_abs (W : World) (c : List Lt) (hn : c.length ≤ 1000000) (hl : wtC c ≤ 1000000000) (hc : okC c) : AFun Tryd.prog W 26 [.lst (c.map Lt.cv)] (.val (.i (wtC c : Int))) := by
  have hsz := Lt.size_all c
  have htk : ∀ k, wtC (c.take k) ≤ wtC c := fun k => by
    have : wtC c = wtC (c.take k) + wtC (c.drop k) := by
      unfold wtC
      rw [← List.sum_append, ← List.map_append, List.take_append_drop]
    omega
  refine afun_of (rs := [.i (wtC c : Int)]) Tryd.func26 Tryd.ntmps26 rfl rfl rfl rfl ?_
  intro w U hW
  refine aS (aR ?_)
  (refine nx (aA (gN rfl) rfl rfl rfl rfl rfl) rfl ?_)
  show AWp _ _ _ _ _ _ _
  refine aS (aR ?_)
  (refine nx (aA (gN rfl) rfl rfl rfl rfl rfl) rfl ?_)
  show AWp _ _ _ _ _ _ _
  refine aS (aS (aR ?_))
  (refine nx (aM (gN rfl) rfl rfl rfl rfl rfl) rfl ?_)
  (refine nx (a_len (gN rfl) rfl rfl rfl rfl rfl rfl rfl) rfl ?_)
  (refine nx (aM (gN rfl) rfl rfl rfl rfl rfl) rfl ?_)
  show AWp _ _ _ _ _ _ _
  refine aB (awp_count c.length (fun k => [(3, .val (.i (wtC (c.take k) : Int))), (6, .val (.lst (c.map Lt.cv))), (7, .val (.i (c.map Lt.cv).length)), (8, .val (.i k))]) (wk_sub ⟨rfl, rfl, rfl, rfl, trivial⟩) ?_)
  intro k hk
  refine aS (aR ?_)
  (refine nx (a_lss (gN rfl) rfl rfl rfl rfl rfl rfl) rfl ?_)
  show AWp _ _ _ _ _ _ _
  refine aS (aC rfl (fun hlt => ?_) (fun hlt => ?_))
  · have hkl : k < c.length := by simpa using hlt
    obtain ⟨x, hx⟩ : ∃ x, c[k]? = some x := ⟨c[k], List.getElem?_eq_getElem hkl⟩
    have hx' := Lt.map_at hx
    have hxm := List.mem_of_getElem? hx
    have hw1 : wtC (c.take (k + 1)) = wtC (c.take k) + (x.a.size + x.b.size) := by
      unfold wtC
      rw [List.take_add_one, hx, List.map_append, List.sum_append]
      simp
    have hle := htk (k + 1)
    have s1 := size_abs w (hc x hxm).1 (by omega)
    have s2 := size_abs w (hc x hxm).2 (by omega)
    refine aK ?_
    show AWp _ _ _ _ _ _ _
    refine aS (aB (aS (aR ?_)))
    (refine nx (a_index (j := k) (gN rfl) rfl rfl rfl rfl rfl rfl rfl rfl rfl (hx') rfl (hsz)) rfl ?_)
    (refine nx (a_load_ad (gN rfl) rfl rfl rfl rfl rfl rfl rfl rfl rfl) rfl ?_)
    (refine nx (a_alloc (gN rfl) rfl rfl rfl rfl rfl rfl rfl rfl rfl rfl) rfl ?_)
    (refine nx (aSt (gN rfl) rfl rfl rfl rfl rfl rfl rfl rfl rfl rfl) rfl ?_)
    show AWp _ _ _ _ _ _ _
    refine aD (by kernel_rfl) (by kernel_rfl) ?_
    (refine nx (aM (gN rfl) rfl rfl rfl rfl rfl) rfl ?_)
    (refine nx (aF (gN rfl) rfl rfl rfl rfl rfl rfl rfl rfl rfl) rfl ?_)
    (refine nx (aLb (gN rfl) rfl rfl rfl rfl rfl rfl rfl rfl rfl rfl rfl rfl) rfl ?_)
    (refine nx (a_call (gN rfl) rfl rfl rfl rfl rfl (s1)) rfl ?_)
    (refine nx (aF (gN rfl) rfl rfl rfl rfl rfl rfl rfl rfl rfl) rfl ?_)
    (refine nx (aLb (gN rfl) rfl rfl rfl rfl rfl rfl rfl rfl rfl rfl rfl rfl) rfl ?_)
    (refine nx (a_call (gN rfl) rfl rfl rfl rfl rfl (s2)) rfl ?_)
    (first | (refine nx (a_add (gN rfl) rfl rfl rfl rfl rfl rfl (by first | omega | (simp only [List.length_map, List.length_append, List.length_cons, List.length_nil] <;> omega) | (simp <;> omega))) rfl ?_) | (refine nx (a_sadd (gN rfl) rfl rfl rfl rfl rfl rfl (by first | omega | (simp only [List.length_map, List.length_append, List.length_cons, List.length_nil] <;> omega) | (simp <;> omega))) (by first | rfl | kernel_rfl) ?_))
    (first | (refine nx (a_add (gN rfl) rfl rfl rfl rfl rfl rfl (by first | omega | (simp only [List.length_map, List.length_append, List.length_cons, List.length_nil] <;> omega) | (simp <;> omega))) rfl ?_) | (refine nx (a_sadd (gN rfl) rfl rfl rfl rfl rfl rfl (by first | omega | (simp only [List.length_map, List.length_append, List.length_cons, List.length_nil] <;> omega) | (simp <;> omega))) (by first | rfl | kernel_rfl) ?_))
    (refine nx (aA (gN rfl) rfl rfl rfl rfl rfl) rfl ?_)
    refine ⟨by kernel_rfl, ?_⟩
    show AWp _ _ _ _ _ _ _
    refine aR ?_
    (first | (refine nx (a_add (gN rfl) rfl rfl rfl rfl rfl rfl (by first | omega | (simp only [List.length_map, List.length_append, List.length_cons, List.length_nil] <;> omega) | (simp <;> omega))) rfl ?_) | (refine nx (a_sadd (gN rfl) rfl rfl rfl rfl rfl rfl (by first | omega | (simp only [List.length_map, List.length_append, List.length_cons, List.length_nil] <;> omega) | (simp <;> omega))) (by first | rfl | kernel_rfl) ?_))
    (refine nx (aM (gN rfl) rfl rfl rfl rfl rfl) rfl ?_)
    refine ⟨hkl, wk_sub ⟨?_, rfl, rfl, rfl, trivial⟩⟩
    rw [hw1, Int.natCast_add, Int.natCast_add]
    rfl
  · have hkl : k = c.length := by
      have : ¬ k < c.length := by simpa using hlt
      omega
    subst hkl
    rw [List.take_length]
    refine aE ?_
    show AWp _ _ _ _ _ _ _
    refine aS (aR ?_)
    (refine nx (aM (gN rfl) rfl rfl rfl rfl rfl) rfl ?_)
    (refine nx (aA (gN rfl) rfl rfl rfl rfl rfl) rfl ?_)
    show AWp _ _ _ _ _ _ _
    exact aT (And.intro (.inr rfl) rfl)
end Go.Proofs.YtglbohajmccehaaDoor
namespace Go.Proofs.YtglbohajmccehaaDoor
open Go.RowKit
set_option linter.unusedVariables false
set_option linter.unusedSimpArgs false
def TmG (t : Tm) (k : Nat) : Prop := t.rng ∧ t.ok ∧ t.size ≤ k
theorem tz_rng : tz.rng := by rw [Tm.rng_iff]; exact ⟨⟨by decide, by decide⟩, fun s hs => by cases hs⟩
theorem tz_ok : tz.ok := by rw [Tm.ok_iff]; exact ⟨by decide, fun s hs => by cases hs⟩
theorem tz_size : tz.size = 1 := by rw [Tm.size_eq]; rfl
theorem Ph.sz_pos (p : Ph) : 1 ≤ p.sz := by rw [p.sz_eq]; omega
theorem tz_g (p : Ph) : TmG tz p.sz := ⟨tz_rng, tz_ok, by rw [tz_size]; exact p.sz_pos⟩
theorem flat_len (l : List Tm) : (l.flatMap Tm.flat).length = (l.map Tm.size).sum := by
  rw [List.length_flatMap]; rfl
def StepG (f : Nm → Ph → Option (Tm × Bool × Nm)) : Prop := ∀ st p r, st.ok → p.ok → st.vr.length + p.sz ≤ 1000000 → f st p = some r → StepOk st r.2.2 p.sz ∧ TmG r.1 p.sz
theorem fold_g {f : Nm → Ph → Option (Tm × Bool × Nm)} (hf : StepG f) : ∀ (ps : List Ph) (st : Nm) (acc : List Tm) (r : List Tm × Bool × Nm), st.ok → (∀ p ∈ ps, p.ok) → st.vr.length + (ps.map Ph.sz).sum ≤ 1000000 → (∀ x ∈ acc, x.rng ∧ x.ok) → foldP f st ps acc = some r → (∀ x ∈ r.1, x.rng ∧ x.ok) ∧ r.1.length ≤ acc.length + ps.length ∧ (r.1.map Tm.size).sum ≤ (acc.map Tm.size).sum + (ps.map Ph.sz).sum
  | [], st, acc, r, h, _, _, ha, e => by
    simp only [foldP, Option.some.injEq] at e
    subst e
    exact ⟨ha, Nat.le_add_right _ _, Nat.le_add_right _ _⟩
  | p :: ps, st, acc, r, h, hp, hl, ha, e => by
    rw [foldP] at e
    rw [List.map_cons, List.sum_cons] at hl ⊢
    cases hx : f st p with
    | none => rw [hx] at e; cases e
    | some q =>
      rw [hx] at e
      simp only at e
      obtain ⟨h1, h3⟩ := hf st p q h (hp p (by simp)) (by omega) hx
      unfold StepOk at h1
      split at e
      · obtain ⟨i1, i2, i3⟩ := fold_g hf ps q.2.2 _ r h1.1 (fun p hm => hp p (List.mem_cons_of_mem _ hm)) (by omega) (fun x hx => by
          rcases List.mem_append.1 hx with hx | hx
          · exact ha x hx
          · rw [List.mem_singleton.1 hx]; exact ⟨h3.1, h3.2.1⟩) e
        refine ⟨i1, ?_, ?_⟩
        · rw [List.length_append] at i2
          simp only [List.length_cons, List.length_nil] at i2 ⊢
          omega
        · rw [List.map_append, List.sum_append] at i3
          have := h3.2.2
          simp only [List.map_cons, List.map_nil, List.sum_cons, List.sum_nil] at i3
          omega
      · cases e
        exact ⟨(fun x hx => by cases hx), Nat.zero_le _, Nat.zero_le _⟩
theorem sym_g {f : Nm → Ph → Option (Tm × Bool × Nm)} (hf : StepG f) {st : Nm} {p : Ph} {pred : Bool} {r : Tm × Bool × Nm} (h : st.ok) (hp : p.ok) (hl : st.vr.length + p.sz ≤ 1000000) (e : symF f st p pred = some r) : TmG r.1 p.sz := by
  obtain ⟨⟨h1, h2, h3⟩, h4⟩ := (Ph.ok_iff p).1 hp
  have hn := numF_ok h (k := ⟨p.name, p.parts.length, pred⟩) ⟨h2, h3⟩
  have hv := numF_vr st ⟨p.name, p.parts.length, pred⟩
  have hsz := p.sz_eq
  unfold symF at e
  split at e
  · split at e
    · cases e
    · rename_i q hq
      obtain ⟨i1, i2, i3⟩ := fold_g hf p.parts _ [] q hn.1 h4 (by rw [hv]; omega) (fun x hx => by cases hx) hq
      split at e
      · cases e
        refine ⟨(Tm.rng_iff _).2 ⟨⟨by show (-9223372036854775808 : Int) ≤ ((_ : Nat) : Int); omega, by show ((_ : Nat) : Int) ≤ 9223372036854775807; omega⟩, fun s hs => (i1 s hs).1⟩, (Tm.ok_iff _).2 ⟨?_, fun s hs => (i1 s hs).2⟩, ?_⟩
        · show q.1.length ≤ _
          simp only [List.length_nil] at i2
          omega
        · rw [Tm.size_eq, show Tm.ps ⟨((numF st ⟨p.name, p.parts.length, pred⟩).1 : Nat), q.1⟩ = q.1 by unfold Tm.ps; rw [if_neg (by show ¬ ((_ : Nat) : Int) < 0; omega)], flat_len, hsz]
          simp only [List.map_nil, List.sum_nil] at i3
          omega
      · cases e
        exact tz_g p
  · cases e
    exact tz_g p
theorem tmF_g : ∀ (n : Nat), StepG (tmF n)
  | 0, _, _, _, _, _, _, e => by simp [tmF] at e
  | n + 1, st, p, r, h, hp, hl, e => by
    refine ⟨tmF_ok (n + 1) st p r h hp hl e, ?_⟩
    obtain ⟨⟨h1, h2, h3⟩, h4⟩ := (Ph.ok_iff p).1 hp
    have hsz := p.sz_eq
    rw [tmF] at e
    split at e
    · cases e
      obtain ⟨v1, v2, v3⟩ := varF_ok h h2 (by omega)
      refine ⟨(Tm.rng_iff _).2 ⟨⟨by show (-9223372036854775808 : Int) ≤ -1 - ((_ : Nat) : Int); omega, by show -1 - ((_ : Nat) : Int) ≤ 9223372036854775807; omega⟩, fun s hs => by cases hs⟩, (Tm.ok_iff _).2 ⟨Nat.zero_le _, fun s hs => by cases hs⟩, ?_⟩
      rw [Tm.size_eq, show Tm.ps ⟨-1 - ((varF st p.name).1 : Nat), []⟩ = [] by unfold Tm.ps; split <;> rfl, hsz]
      simp
    · exact sym_g (tmF_g n) h hp hl e
def LtG (l : Lt) (k : Nat) : Prop := (l.a.rng ∧ l.a.ok) ∧ (l.b.rng ∧ l.b.ok) ∧ l.a.size + l.b.size ≤ k
theorem litF_g {n : Nat} {st : Nm} {s : Se} {r : Lt × Bool × Nm} (h : st.ok) (hs : s.ok) (hl : st.vr.length + s.sz ≤ 1000000) (e : litF n st s = some r) : LtG r.1 s.sz := by
  unfold litF at e
  unfold Se.sz at hl ⊢
  have p1 := s.a.sz_pos
  have p2 := s.b.sz_pos
  split at e
  · split at e
    · cases e
    · rename_i q hq
      obtain ⟨i1, i2, i3⟩ := sym_g (tmF_g n) h hs.1 (by omega) hq
      cases e
      exact ⟨⟨i1, i2⟩, ⟨tz_rng, tz_ok⟩, by show q.1.size + tz.size ≤ _; rw [tz_size]; omega⟩
  · rename_i ha
    have hsb := hs.2 (by simpa using ha)
    split at e
    · cases e
    · rename_i q hq
      obtain ⟨h1, i1, i2, i3⟩ := tmF_g n st s.a q h hs.1 (by omega) hq
      unfold StepOk at *
      split at e
      · split at e
        · cases e
        · rename_i q2 hq2
          obtain ⟨h2, j1, j2, j3⟩ := tmF_g n q.2.2 s.b q2 h1.1 hsb (by omega) hq2
          cases e
          exact ⟨⟨i1, i2⟩, ⟨j1, j2⟩, by show q.1.size + q2.1.size ≤ _; omega⟩
      · cases e
        exact ⟨⟨tz_rng, tz_ok⟩, ⟨tz_rng, tz_ok⟩, by show tz.size + tz.size ≤ _; rw [tz_size]; omega⟩
theorem litsF_g {n : Nat} : ∀ (ss : List Se) (st : Nm) (acc : List Lt) (r : List Lt × Bool × Nm), st.ok → (∀ s ∈ ss, s.ok) → st.vr.length + (ss.map Se.sz).sum ≤ 1000000 → (∀ x ∈ acc, (x.a.rng ∧ x.a.ok) ∧ (x.b.rng ∧ x.b.ok)) → litsF n st ss acc = some r → (∀ x ∈ r.1, (x.a.rng ∧ x.a.ok) ∧ (x.b.rng ∧ x.b.ok)) ∧ r.1.length ≤ acc.length + ss.length ∧ wtL r.1 ≤ wtL acc + (ss.map Se.sz).sum
  | [], st, acc, r, h, _, _, ha, e => by
    simp only [litsF, Option.some.injEq] at e
    subst e
    exact ⟨ha, Nat.le_add_right _ _, Nat.le_add_right _ _⟩
  | p :: ps, st, acc, r, h, hp, hl, ha, e => by
    rw [litsF] at e
    rw [List.map_cons, List.sum_cons] at hl ⊢
    cases hx : litF n st p with
    | none => rw [hx] at e; cases e
    | some q =>
      rw [hx] at e
      simp only at e
      have h1 := litF_ok h (hp p (by simp)) (by omega) hx
      obtain ⟨g1, g2, g3⟩ := litF_g h (hp p (by simp)) (by omega) hx
      unfold StepOk at h1
      split at e
      · obtain ⟨i1, i2, i3⟩ := litsF_g ps q.2.2 _ r h1.1 (fun p hm => hp p (List.mem_cons_of_mem _ hm)) (by omega) (fun x hx => by
          rcases List.mem_append.1 hx with hx | hx
          · exact ha x hx
          · rw [List.mem_singleton.1 hx]; exact ⟨g1, g2⟩) e
        refine ⟨i1, ?_, ?_⟩
        · rw [List.length_append] at i2
          simp only [List.length_cons, List.length_nil] at i2 ⊢
          omega
        · unfold wtL at i3 ⊢
          rw [List.map_append, List.sum_append] at i3
          simp only [List.map_cons, List.map_nil, List.sum_cons, List.sum_nil] at i3
          omega
      · cases e
        exact ⟨(fun x hx => by cases hx), Nat.zero_le _, Nat.zero_le _⟩
theorem clsF_g {n : Nat} {st : Nm} {c : List Se} {r : List Lt × Bool × Nm} (h : st.ok) (hc : ∀ s ∈ c, s.ok) (hl : (c.map Se.sz).sum ≤ 1000000) (e : clsF n st c = some r) : r.2.2.ok ∧ okC r.1 ∧ r.1.length ≤ c.length ∧ wtL r.1 ≤ (c.map Se.sz).sum ∧ ∀ x ∈ r.1, x.a.ok ∧ x.b.ok := by
  unfold clsF at e
  have h0 := nm_clear h
  have hl' : (⟨st.sg, st.sy, []⟩ : Nm).vr.length + (c.map Se.sz).sum ≤ 1000000 := by show 0 + _ ≤ _; omega
  obtain ⟨i1, i2, i3⟩ := litsF_g c _ [] r h0 hc hl' (fun x hx => by cases hx) e
  have := litsF_ok c _ [] r h0 hc hl' e
  refine ⟨this.1, fun l hm => ⟨(i1 l hm).1.1, (i1 l hm).2.1⟩, by simpa using i2, ?_, fun x hx => ⟨(i1 x hx).1.2, (i1 x hx).2.2⟩⟩
  have : wtL [] = 0 := rfl
  omega
end Go.Proofs.YtglbohajmccehaaDoor
-- @STR@
namespace Go.Proofs.YtglbohajmccehaaDoor
open Go.RowKit
set_option linter.unusedVariables false
set_option linter.unusedSimpArgs false
set_option maxRecDepth 100000

noncomputable def sgv (s : Sg) : CV := .row [.lst (s.nm.map sv), .lst (s.ar.map iv), .lst (s.pr.map bv)]
noncomputable def lcv (c : List Lt) : CV := .lst (c.map Lt.cv)
def sgz : Sg := ⟨[], [], []⟩
noncomputable abbrev sgcZ : CV := .row [.lst [], .lst [], .lst []]
theorem lcv_size (cs : List (List Lt)) : ∀ c ∈ cs.map lcv, c.size = 1 := by
  intro c hc
  obtain ⟨t, _, rfl⟩ := List.mem_map.1 hc
  rfl
theorem nm0_ok : nm0.ok := ⟨rfl, rfl, by decide, (fun p hp => by cases hp), List.nodup_nil, ⟨by decide, (fun p hp => by cases hp)⟩, (fun p hp => by cases hp), List.nodup_nil, ⟨by decide, (fun p hp => by cases hp)⟩⟩
-- 
set_option maxHeartbeats 4000000 in
theorem mean_abs (W : World) (n : Nat) (cs : List (List Se)) (q : Nm × List (List Lt) × Bool) (hcs : ∀ c ∈ cs, (∀ s ∈ c, s.ok) ∧ c.length ≤ 1000000 ∧ (c.map Se.sz).sum ≤ 1000000) (hcl : cs.length ≤ 1000000) (hq : mnF n nm0 cs [] = some q) : AFun Tryd.prog W 14 [.lst (cs.map scv)] (.tup [sgv (bif q.2.2 then q.1.sg else sgz), .lst (q.2.1.map lcv), .b q.2.2]) := by
  have hcz := scv_size cs
  refine afun_of (rs := [sgv (bif q.2.2 then q.1.sg else sgz), .lst (q.2.1.map lcv), .b q.2.2]) Tryd.func14 Tryd.ntmps14 rfl rfl rfl rfl ?_
  intro w U hW
  refine aS (aR ?_)
  (refine nx (a_alloc (gN rfl) rfl rfl rfl rfl rfl rfl rfl rfl rfl rfl) rfl ?_)
  (refine nx (aA (gN rfl) rfl rfl rfl rfl rfl) rfl ?_)
  (refine nx (aA (gN rfl) rfl rfl rfl rfl rfl) rfl ?_)
  show AWp _ _ _ _ _ _ _
  refine AWp.wk (wk_sub (s' := [(0, .val (.lst (cs.map scv))), (2, .bp 2 0 []), (100002, ⟨5, sgcZ, 1, 0, [0]⟩)]) ⟨rfl, rfl, rfl, trivial⟩) ?_
  refine aS (awp_names rfl rfl rfl rfl rfl rfl rfl rfl rfl rfl rfl rfl rfl rfl rfl (by decide) (by kernel_rfl) (fun k v hk _ => by rw [hW.1 k] at hk; cases hk) ?_)
  show AWp _ _ _ _ _ _ _
  refine AWp.wk (wk_sub (s' := (0, .val (.lst (cs.map scv))) :: (2, .bp 2 0 []) :: (100002, ⟨5, sgcZ, 1, 0, [0]⟩) :: (5, .bp 350001 0 []) :: nmI nm0) ⟨rfl, rfl, rfl, rfl, rfl, rfl, rfl, rfl, rfl, rfl, rfl, rfl, rfl, rfl, trivial⟩) ?_
  refine aS (aR ?_)
  (refine nx (aA (gN rfl) rfl rfl rfl rfl rfl) rfl ?_)
  show AWp _ _ _ _ _ _ _
  refine aS (aS (aR ?_))
  (refine nx (aM (gN rfl) rfl rfl rfl rfl rfl) rfl ?_)
  (refine nx (a_len (gN rfl) rfl rfl rfl rfl rfl rfl rfl) rfl ?_)
  (refine nx (aM (gN rfl) rfl rfl rfl rfl rfl) rfl ?_)
  show AWp _ _ _ _ _ _ _
  let sS : Nat → List (List Lt) → AS → AS := fun k acc o => (2, .bp 2 0 []) :: (100002, ⟨5, sgcZ, 1, 0, [0]⟩) :: (5, .bp 350001 0 []) :: (6, .own (.lst (acc.map lcv)) 200038) :: (200038, .tok 42 1) :: (15, .val (.lst (cs.map scv))) :: (16, .val (.i (cs.map scv).length)) :: (17, .val (.i (k : Int))) :: o
  refine aB (awp_loop (fun m s => ∃ k acc st' o, m = cs.length - k ∧ k ≤ cs.length ∧ acc.length = k ∧ mnF n st' (cs.drop k) acc = some q ∧ st'.ok ∧ (o = nmI nm0 ∧ st' = nm0 ∨ o = nmS st') ∧ s = sS k acc o) (n := cs.length) (s' := sS 0 [] (nmI nm0)) ((wk_nil 6 200038 42 1 rfl rfl rfl rfl rfl (by kernel_rfl) (by kernel_rfl)).trans (wk_sub ⟨rfl, rfl, rfl, rfl, rfl, rfl, rfl, rfl, rfl, rfl, rfl, rfl, rfl, rfl, rfl, rfl, rfl, rfl, trivial⟩)) ⟨0, [], nm0, nmI nm0, rfl, Nat.zero_le _, rfl, hq, nm0_ok, .inl ⟨rfl, rfl⟩, rfl⟩ ?_)
  rintro m s ⟨k, acc, st', o, rfl, hk, hal, hf, hst, ho, rfl⟩
  rcases ho with ⟨rfl, rfl⟩ | rfl
  · refine aS (aR ?_)
    (refine nx (a_lss (gN rfl) rfl rfl rfl rfl rfl rfl) rfl ?_)
    show AWp _ _ _ _ _ _ _
    refine aS (aC rfl (fun hlt => aK ?_) (fun hlt => aE ?_))
    · have hkl : k < cs.length := by simpa using hlt
      obtain ⟨x, hx⟩ : ∃ x, cs[k]? = some x := ⟨cs[k], List.getElem?_eq_getElem hkl⟩
      have hx' : (cs.map scv)[k]? = some (scv x) := by rw [List.getElem?_map, hx]; rfl
      obtain ⟨hxo, hxl, hxs⟩ := hcs x (List.mem_of_getElem? hx)
      rw [drop_at hx, mnF] at hf
      cases hx2 : clsF n nm0 x with
      | none => rw [hx2] at hf; cases hf
      | some u =>
      rw [hx2] at hf
      simp only at hf
      have hlc := cls0_abs n nm0 x u hst hxo hxl hxs hx2
      obtain ⟨hso, huc, hul, huw, _⟩ := clsF_g hst hxo hxs hx2
      show AWp _ _ _ _ _ _ _
      refine aS (aB (aS (aR ?_)))
      (refine nx (a_index (j := k) (gN rfl) rfl rfl rfl rfl rfl rfl rfl rfl rfl (hx') rfl (hcz)) rfl ?_)
      (refine nx (a_load_ad (gN rfl) rfl rfl rfl rfl rfl rfl rfl rfl rfl) rfl ?_)
      (refine nx (aA (gN rfl) rfl rfl rfl rfl rfl) rfl ?_)
      show AWp _ _ _ _ _ _ _
      refine aS (aR ?_)
      (refine nx (aM (gN rfl) rfl rfl rfl rfl rfl) rfl ?_)
      (refine nx (aM (gN rfl) rfl rfl rfl rfl rfl) rfl ?_)
      (refine nx (a_callO (gN rfl) rfl rfl rfl rfl rfl (hlc) (by repeat (first | exact trivial | refine ⟨rfl, ?_⟩)) (by first | rfl | kernel_rfl) (by first | rfl | kernel_rfl) (by first | rfl | kernel_rfl) (by first | rfl | kernel_rfl) (hnb_of (by first | rfl | kernel_rfl))) rfl ?_)
      (refine nx (aM (gN rfl) rfl rfl rfl rfl rfl) rfl ?_)
      (refine nx (aX (gN rfl) rfl rfl rfl rfl rfl rfl) rfl ?_)
      (refine nx (aX (gN rfl) rfl rfl rfl rfl rfl rfl) rfl ?_)
      (refine nx (aA (gN rfl) rfl rfl rfl rfl rfl) rfl ?_)
      (refine nx (aA (gN rfl) rfl rfl rfl rfl rfl) rfl ?_)
      show AWp _ _ _ _ _ _ _
      refine AWp.wk (wk_sub (s' := (9, .val (.lst (u.1.map Lt.cv))) :: (10, .val (.b u.2.1)) :: sS k acc (nmS u.2.2)) ⟨rfl, rfl, rfl, rfl, rfl, rfl, rfl, rfl, rfl, rfl, rfl, rfl, rfl, rfl, rfl, rfl, rfl, rfl, rfl, rfl, rfl, trivial⟩) ?_
      cases hok : u.2.1 with
      | false =>
        rw [hok] at hf
        simp only [Bool.false_and, Bool.false_eq_true, if_false, Option.some.injEq] at hf
        subst hf
        refine aS (aS (aR ?_))
        (refine nx (aM (gN rfl) rfl rfl rfl rfl rfl) rfl ?_)
        (refine nx (a_not (gN rfl) rfl rfl rfl rfl rfl) rfl ?_)
        (refine nx (aM (gN rfl) rfl rfl rfl rfl rfl) rfl ?_)
        (refine ⟨_, _, _, a_off (go_off rfl rfl rfl rfl (by first | rfl | assumption | (simp; done) | (simp [*]; done))) rfl rfl rfl, rfl, ?_⟩)
        (refine ⟨_, _, _, a_off (go_off rfl rfl rfl rfl (by first | rfl | assumption | (simp; done) | (simp [*]; done))) rfl rfl rfl, rfl, ?_⟩)
        (refine ⟨_, _, _, a_off (go_off rfl rfl rfl rfl (by first | rfl | assumption | (simp; done) | (simp [*]; done))) rfl rfl rfl, rfl, ?_⟩)
        (refine ⟨_, _, _, aPt (gN rfl) rfl rfl rfl rfl rfl ?hb rfl, rfl, ?_⟩; case hb => (first | rfl | assumption | (simp; done)))
        show AWp _ _ _ _ _ _ _
        refine aC rfl (fun hc => ?_) (fun hc => by cases hc)
        refine aS (aR ?_)
        (refine nx (a_build (gN rfl) rfl rfl rfl rfl rfl rfl rfl rfl rfl rfl rfl) rfl ?_)
        (refine nx (aSt (gN rfl) rfl rfl rfl rfl rfl rfl rfl rfl rfl rfl) rfl ?_)
        (refine nx (aA (gN rfl) rfl rfl rfl rfl rfl) rfl ?_)
        (refine nx (aA (gN rfl) rfl rfl rfl rfl rfl) rfl ?_)
        show AWp _ _ _ _ _ _ _
        exact aT (And.intro (.inr rfl) rfl)
      | true =>
        rw [hok] at hf
        have hwt := cWeight_abs w u.1 (by omega) (by show wtL u.1 ≤ _; omega) huc
        rw [show wtC u.1 = wtL u.1 from rfl] at hwt
        refine aS (aS (aR ?_))
        (refine nx (aM (gN rfl) rfl rfl rfl rfl rfl) rfl ?_)
        (refine nx (a_not (gN rfl) rfl rfl rfl rfl rfl) rfl ?_)
        (refine nx (aM (gN rfl) rfl rfl rfl rfl rfl) rfl ?_)
        (refine nx (aM (gd_on rfl rfl rfl rfl (by first | rfl | assumption | (simp; done))) rfl rfl rfl rfl rfl) rfl ?_)
        (refine nx (a_call (gd_on rfl rfl rfl rfl (by first | rfl | assumption | (simp; done))) rfl rfl rfl rfl rfl (hwt)) rfl ?_)
        (refine nx (a_gtr (gd_on rfl rfl rfl rfl (by first | rfl | assumption | (simp; done))) rfl rfl rfl rfl rfl rfl) rfl ?_)
        (refine ⟨_, _, _, aPf (gN rfl) rfl rfl rfl rfl rfl ?hb rfl, rfl, ?_⟩; case hb => (first | rfl | assumption | (simp; done)))
        show AWp _ _ _ _ _ _ _
        refine aC rfl (fun hc => ?_) (fun hc => aK ?_)
        · have hgt : ¬ wtL u.1 ≤ 60 := by
            have : (60 : Int) < (wtL u.1 : Int) := by simpa using hc
            omega
          simp only [Bool.true_and, hgt, decide_false, Bool.false_eq_true, if_false, Option.some.injEq] at hf
          subst hf
          refine aS (aR ?_)
          (refine nx (a_build (gN rfl) rfl rfl rfl rfl rfl rfl rfl rfl rfl rfl rfl) rfl ?_)
          (refine nx (aSt (gN rfl) rfl rfl rfl rfl rfl rfl rfl rfl rfl rfl) rfl ?_)
          (refine nx (aA (gN rfl) rfl rfl rfl rfl rfl) rfl ?_)
          (refine nx (aA (gN rfl) rfl rfl rfl rfl rfl) rfl ?_)
          show AWp _ _ _ _ _ _ _
          exact aT (And.intro (.inr rfl) rfl)
        · have hle : wtL u.1 ≤ 60 := by
            have : ¬ (60 : Int) < (wtL u.1 : Int) := by simpa using hc
            omega
          simp only [Bool.true_and, hle, decide_true, if_true] at hf
          have hsz2 := lcv_size acc
          have hal2 : (acc.map lcv).length ≤ 1000000 := by rw [List.length_map]; omega
          have hap : (acc ++ [u.1]).map lcv = acc.map lcv ++ [.lst (u.1.map Lt.cv)] := by rw [List.map_append]; rfl
          show AWp _ _ _ _ _ _ _
          refine aR ?_
          (refine nx (aM (gN rfl) rfl rfl rfl rfl rfl) rfl ?_)
          (refine nx (aM (gN rfl) rfl rfl rfl rfl rfl) rfl ?_)
          (refine nx (a_bslice (gN rfl) rfl rfl rfl rfl rfl rfl rfl rfl rfl rfl rfl rfl rfl) rfl ?_)
          (refine nx (a_app (gN rfl) rfl rfl rfl rfl rfl rfl rfl rfl rfl rfl rfl rfl rfl rfl rfl (by first | assumption | exact sZ rfl | exact Tm.size_all _ | exact Bd.size_all _ | exact ints_size _ | exact bys_size _ | exact Lt.size_all _) (by first | assumption | exact sZ rfl | exact Tm.size_all _ | exact Bd.size_all _ | exact ints_size _ | exact bys_size _ | exact Lt.size_all _) (by first | omega | (simp only [List.length_map, List.length_append, List.length_cons, List.length_nil] <;> omega) | (simp <;> omega))) (by kernel_rfl) ?_)
          (refine nx (aA (gN rfl) rfl rfl rfl rfl rfl) rfl ?_)
          show AWp _ _ _ _ _ _ _
          refine aR ?_
          (refine nx (a_add (gN rfl) rfl rfl rfl rfl rfl rfl (by first | omega | (simp only [List.length_map, List.length_append, List.length_cons, List.length_nil] <;> omega) | (simp <;> omega))) rfl ?_)
          (refine nx (aM (gN rfl) rfl rfl rfl rfl rfl) rfl ?_)
          refine ⟨cs.length - (k + 1), sS (k + 1) (acc ++ [u.1]) (nmS u.2.2), by omega, ⟨k + 1, acc ++ [u.1], u.2.2, _, rfl, by omega, by rw [List.length_append, hal]; rfl, hf, hso, .inr rfl, rfl⟩, (wk_sub (s' := (2, .bp 2 0 []) :: (100002, ⟨5, sgcZ, 1, 0, [0]⟩) :: (5, .bp 350001 0 []) :: (6, .own (.lst ((acc ++ [u.1]).map lcv)) 300038) :: (300038, .tok 42 1) :: (15, .val (.lst (cs.map scv))) :: (16, .val (.i (cs.map scv).length)) :: (17, .val (.i ((k + 1 : Nat) : Int))) :: nmS u.2.2) ⟨rfl, rfl, rfl, by rw [hap]; rfl, rfl, rfl, rfl, rfl, rfl, rfl, rfl, rfl, rfl, rfl, rfl, rfl, rfl, rfl, rfl, trivial⟩).trans (wk_ren 300038 200038 rfl rfl (by kernel_rfl) (by kernel_rfl))⟩
    · have hkl : k = cs.length := by
        have : ¬ k < cs.length := by simpa using hlt
        omega
      rw [hkl, List.drop_length] at hf
      simp only [mnF, Option.some.injEq] at hf
      subst hf
      show AWp _ _ _ _ _ _ _
      refine AWp.wk (wk_three (n := 350001) (o1 := 0) (r1 := 300001) (r2 := 300002) (r3 := 300003) (l1 := nm0.sg.nm.map sv) (l2 := nm0.sg.ar.map iv) (l3 := nm0.sg.pr.map bv) (e1 := 9) (e2 := 3) (e3 := 4) (.inr ⟨by decide, by decide⟩) (by kernel_rfl) rfl (by rw [show (nm0.sg.nm.map sv).length = nm0.sg.nm.length from List.length_map _]; kernel_rfl) (by rw [show (nm0.sg.ar.map iv).length = nm0.sg.ar.length from List.length_map _]; kernel_rfl) (by rw [show (nm0.sg.pr.map bv).length = nm0.sg.pr.length from List.length_map _]; kernel_rfl) (by kernel_rfl) (by kernel_rfl) (by kernel_rfl) hW.2 (by decide) (by decide) (by decide) (s' := [(2, .bp 2 0 []), (100002, ⟨5, sgcZ, 1, 0, [0]⟩), (5, .bp 350001 0 []), (6, .own (.lst (acc.map lcv)) 200038), (200038, .tok 42 1), (450001, .obj)]) ⟨by kernel_rfl, by kernel_rfl, by kernel_rfl, by kernel_rfl, by kernel_rfl, by kernel_rfl, trivial⟩ (by kernel_rfl) rfl rfl rfl (fun o av h1 h2 => by
        rw [lN (by unfold fKey; omega), lN (by unfold fKey; omega), lN (by unfold fKey; omega), lN (by unfold fKey; omega), lN (by unfold fKey; omega), lN (by unfold fKey; omega)] at h1
        cases h1)) ?_
      refine AWp.wk (wk_sub (s' := [(2, .bp 2 0 []), (100002, ⟨5, sgcZ, 1, 0, [0]⟩), (5, .bp 350001 0 []), (6, .own (.lst (acc.map lcv)) 200038), (200038, .tok 42 1), (450001, .obj), (35500100, .val (sgv nm0.sg))]) ⟨by kernel_rfl, by kernel_rfl, by kernel_rfl, by kernel_rfl, by kernel_rfl, by kernel_rfl, by kernel_rfl, trivial⟩) ?_
      refine aS (aR ?_)
      (refine nx (aM (gN rfl) rfl rfl rfl rfl rfl) rfl ?_)
      (refine nx (aNc (gN rfl) rfl rfl rfl rfl rfl) rfl ?_)
      (refine nx (aF (gN rfl) rfl rfl rfl rfl rfl rfl rfl rfl rfl) rfl ?_)
      (refine nx (aLf (gN rfl) rfl rfl rfl rfl rfl rfl rfl rfl rfl rfl rfl rfl rfl) rfl ?_)
      (refine nx (aM (gN rfl) rfl rfl rfl rfl rfl) rfl ?_)
      (refine nx (aSt (gN rfl) rfl rfl rfl rfl rfl rfl rfl rfl rfl rfl) rfl ?_)
      (refine nx (aA (gN rfl) rfl rfl rfl rfl rfl) rfl ?_)
      (refine nx (aA (gN rfl) rfl rfl rfl rfl rfl) rfl ?_)
      show AWp _ _ _ _ _ _ _
      exact aT (And.intro (.inr rfl) rfl)
  · refine aS (aR ?_)
    (refine nx (a_lss (gN rfl) rfl rfl rfl rfl rfl rfl) rfl ?_)
    show AWp _ _ _ _ _ _ _
    refine aS (aC rfl (fun hlt => aK ?_) (fun hlt => aE ?_))
    · have hkl : k < cs.length := by simpa using hlt
      obtain ⟨x, hx⟩ : ∃ x, cs[k]? = some x := ⟨cs[k], List.getElem?_eq_getElem hkl⟩
      have hx' : (cs.map scv)[k]? = some (scv x) := by rw [List.getElem?_map, hx]; rfl
      obtain ⟨hxo, hxl, hxs⟩ := hcs x (List.mem_of_getElem? hx)
      rw [drop_at hx, mnF] at hf
      cases hx2 : clsF n st' x with
      | none => rw [hx2] at hf; cases hf
      | some u =>
      rw [hx2] at hf
      simp only at hf
      have hlc := cls_abs n st' x u hst hxo hxl hxs hx2
      obtain ⟨hso, huc, hul, huw, _⟩ := clsF_g hst hxo hxs hx2
      show AWp _ _ _ _ _ _ _
      refine aS (aB (aS (aR ?_)))
      (refine nx (a_index (j := k) (gN rfl) rfl rfl rfl rfl rfl rfl rfl rfl rfl (hx') rfl (hcz)) rfl ?_)
      (refine nx (a_load_ad (gN rfl) rfl rfl rfl rfl rfl rfl rfl rfl rfl) rfl ?_)
      (refine nx (aA (gN rfl) rfl rfl rfl rfl rfl) rfl ?_)
      show AWp _ _ _ _ _ _ _
      refine aS (aR ?_)
      (refine nx (aM (gN rfl) rfl rfl rfl rfl rfl) rfl ?_)
      (refine nx (aM (gN rfl) rfl rfl rfl rfl rfl) rfl ?_)
      (refine nx (a_callO (gN rfl) rfl rfl rfl rfl rfl (hlc) (by repeat (first | exact trivial | refine ⟨rfl, ?_⟩)) (by first | rfl | kernel_rfl) (by first | rfl | kernel_rfl) (by first | rfl | kernel_rfl) (by first | rfl | kernel_rfl) (hnb_of (by first | rfl | kernel_rfl))) rfl ?_)
      (refine nx (aM (gN rfl) rfl rfl rfl rfl rfl) rfl ?_)
      (refine nx (aX (gN rfl) rfl rfl rfl rfl rfl rfl) rfl ?_)
      (refine nx (aX (gN rfl) rfl rfl rfl rfl rfl rfl) rfl ?_)
      (refine nx (aA (gN rfl) rfl rfl rfl rfl rfl) rfl ?_)
      (refine nx (aA (gN rfl) rfl rfl rfl rfl rfl) rfl ?_)
      show AWp _ _ _ _ _ _ _
      refine AWp.wk (wk_sub (s' := (9, .val (.lst (u.1.map Lt.cv))) :: (10, .val (.b u.2.1)) :: sS k acc (nmS u.2.2)) ⟨rfl, rfl, rfl, rfl, rfl, rfl, rfl, rfl, rfl, rfl, rfl, rfl, rfl, rfl, rfl, rfl, rfl, rfl, rfl, rfl, rfl, trivial⟩) ?_
      cases hok : u.2.1 with
      | false =>
        rw [hok] at hf
        simp only [Bool.false_and, Bool.false_eq_true, if_false, Option.some.injEq] at hf
        subst hf
        refine aS (aS (aR ?_))
        (refine nx (aM (gN rfl) rfl rfl rfl rfl rfl) rfl ?_)
        (refine nx (a_not (gN rfl) rfl rfl rfl rfl rfl) rfl ?_)
        (refine nx (aM (gN rfl) rfl rfl rfl rfl rfl) rfl ?_)
        (refine ⟨_, _, _, a_off (go_off rfl rfl rfl rfl (by first | rfl | assumption | (simp; done) | (simp [*]; done))) rfl rfl rfl, rfl, ?_⟩)
        (refine ⟨_, _, _, a_off (go_off rfl rfl rfl rfl (by first | rfl | assumption | (simp; done) | (simp [*]; done))) rfl rfl rfl, rfl, ?_⟩)
        (refine ⟨_, _, _, a_off (go_off rfl rfl rfl rfl (by first | rfl | assumption | (simp; done) | (simp [*]; done))) rfl rfl rfl, rfl, ?_⟩)
        (refine ⟨_, _, _, aPt (gN rfl) rfl rfl rfl rfl rfl ?hb rfl, rfl, ?_⟩; case hb => (first | rfl | assumption | (simp; done)))
        show AWp _ _ _ _ _ _ _
        refine aC rfl (fun hc => ?_) (fun hc => by cases hc)
        refine aS (aR ?_)
        (refine nx (a_build (gN rfl) rfl rfl rfl rfl rfl rfl rfl rfl rfl rfl rfl) rfl ?_)
        (refine nx (aSt (gN rfl) rfl rfl rfl rfl rfl rfl rfl rfl rfl rfl) rfl ?_)
        (refine nx (aA (gN rfl) rfl rfl rfl rfl rfl) rfl ?_)
        (refine nx (aA (gN rfl) rfl rfl rfl rfl rfl) rfl ?_)
        show AWp _ _ _ _ _ _ _
        exact aT (And.intro (.inr rfl) rfl)
      | true =>
        rw [hok] at hf
        have hwt := cWeight_abs w u.1 (by omega) (by show wtL u.1 ≤ _; omega) huc
        rw [show wtC u.1 = wtL u.1 from rfl] at hwt
        refine aS (aS (aR ?_))
        (refine nx (aM (gN rfl) rfl rfl rfl rfl rfl) rfl ?_)
        (refine nx (a_not (gN rfl) rfl rfl rfl rfl rfl) rfl ?_)
        (refine nx (aM (gN rfl) rfl rfl rfl rfl rfl) rfl ?_)
        (refine nx (aM (gd_on rfl rfl rfl rfl (by first | rfl | assumption | (simp; done))) rfl rfl rfl rfl rfl) rfl ?_)
        (refine nx (a_call (gd_on rfl rfl rfl rfl (by first | rfl | assumption | (simp; done))) rfl rfl rfl rfl rfl (hwt)) rfl ?_)
        (refine nx (a_gtr (gd_on rfl rfl rfl rfl (by first | rfl | assumption | (simp; done))) rfl rfl rfl rfl rfl rfl) rfl ?_)
        (refine ⟨_, _, _, aPf (gN rfl) rfl rfl rfl rfl rfl ?hb rfl, rfl, ?_⟩; case hb => (first | rfl | assumption | (simp; done)))
        show AWp _ _ _ _ _ _ _
        refine aC rfl (fun hc => ?_) (fun hc => aK ?_)
        · have hgt : ¬ wtL u.1 ≤ 60 := by
            have : (60 : Int) < (wtL u.1 : Int) := by simpa using hc
            omega
          simp only [Bool.true_and, hgt, decide_false, Bool.false_eq_true, if_false, Option.some.injEq] at hf
          subst hf
          refine aS (aR ?_)
          (refine nx (a_build (gN rfl) rfl rfl rfl rfl rfl rfl rfl rfl rfl rfl rfl) rfl ?_)
          (refine nx (aSt (gN rfl) rfl rfl rfl rfl rfl rfl rfl rfl rfl rfl) rfl ?_)
          (refine nx (aA (gN rfl) rfl rfl rfl rfl rfl) rfl ?_)
          (refine nx (aA (gN rfl) rfl rfl rfl rfl rfl) rfl ?_)
          show AWp _ _ _ _ _ _ _
          exact aT (And.intro (.inr rfl) rfl)
        · have hle : wtL u.1 ≤ 60 := by
            have : ¬ (60 : Int) < (wtL u.1 : Int) := by simpa using hc
            omega
          simp only [Bool.true_and, hle, decide_true, if_true] at hf
          have hsz2 := lcv_size acc
          have hal2 : (acc.map lcv).length ≤ 1000000 := by rw [List.length_map]; omega
          have hap : (acc ++ [u.1]).map lcv = acc.map lcv ++ [.lst (u.1.map Lt.cv)] := by rw [List.map_append]; rfl
          show AWp _ _ _ _ _ _ _
          refine aR ?_
          (refine nx (aM (gN rfl) rfl rfl rfl rfl rfl) rfl ?_)
          (refine nx (aM (gN rfl) rfl rfl rfl rfl rfl) rfl ?_)
          (refine nx (a_bslice (gN rfl) rfl rfl rfl rfl rfl rfl rfl rfl rfl rfl rfl rfl rfl) rfl ?_)
          (refine nx (a_app (gN rfl) rfl rfl rfl rfl rfl rfl rfl rfl rfl rfl rfl rfl rfl rfl rfl (by first | assumption | exact sZ rfl | exact Tm.size_all _ | exact Bd.size_all _ | exact ints_size _ | exact bys_size _ | exact Lt.size_all _) (by first | assumption | exact sZ rfl | exact Tm.size_all _ | exact Bd.size_all _ | exact ints_size _ | exact bys_size _ | exact Lt.size_all _) (by first | omega | (simp only [List.length_map, List.length_append, List.length_cons, List.length_nil] <;> omega) | (simp <;> omega))) (by kernel_rfl) ?_)
          (refine nx (aA (gN rfl) rfl rfl rfl rfl rfl) rfl ?_)
          show AWp _ _ _ _ _ _ _
          refine aR ?_
          (refine nx (a_add (gN rfl) rfl rfl rfl rfl rfl rfl (by first | omega | (simp only [List.length_map, List.length_append, List.length_cons, List.length_nil] <;> omega) | (simp <;> omega))) rfl ?_)
          (refine nx (aM (gN rfl) rfl rfl rfl rfl rfl) rfl ?_)
          refine ⟨cs.length - (k + 1), sS (k + 1) (acc ++ [u.1]) (nmS u.2.2), by omega, ⟨k + 1, acc ++ [u.1], u.2.2, _, rfl, by omega, by rw [List.length_append, hal]; rfl, hf, hso, .inr rfl, rfl⟩, (wk_sub (s' := (2, .bp 2 0 []) :: (100002, ⟨5, sgcZ, 1, 0, [0]⟩) :: (5, .bp 350001 0 []) :: (6, .own (.lst ((acc ++ [u.1]).map lcv)) 300038) :: (300038, .tok 42 1) :: (15, .val (.lst (cs.map scv))) :: (16, .val (.i (cs.map scv).length)) :: (17, .val (.i ((k + 1 : Nat) : Int))) :: nmS u.2.2) ⟨rfl, rfl, rfl, by rw [hap]; rfl, rfl, rfl, rfl, rfl, rfl, rfl, rfl, rfl, rfl, rfl, rfl, rfl, rfl, rfl, rfl, trivial⟩).trans (wk_ren 300038 200038 rfl rfl (by kernel_rfl) (by kernel_rfl))⟩
    · have hkl : k = cs.length := by
        have : ¬ k < cs.length := by simpa using hlt
        omega
      rw [hkl, List.drop_length] at hf
      simp only [mnF, Option.some.injEq] at hf
      subst hf
      show AWp _ _ _ _ _ _ _
      refine AWp.wk (wk_three (n := 350001) (o1 := 0) (r1 := 300001) (r2 := 300002) (r3 := 300003) (l1 := st'.sg.nm.map sv) (l2 := st'.sg.ar.map iv) (l3 := st'.sg.pr.map bv) (e1 := 9) (e2 := 3) (e3 := 4) (.inr ⟨by decide, by decide⟩) (by kernel_rfl) rfl (by rw [show (st'.sg.nm.map sv).length = st'.sg.nm.length from List.length_map _]; kernel_rfl) (by rw [show (st'.sg.ar.map iv).length = st'.sg.ar.length from List.length_map _]; kernel_rfl) (by rw [show (st'.sg.pr.map bv).length = st'.sg.pr.length from List.length_map _]; kernel_rfl) (by kernel_rfl) (by kernel_rfl) (by kernel_rfl) hW.2 (by decide) (by decide) (by decide) (s' := [(2, .bp 2 0 []), (100002, ⟨5, sgcZ, 1, 0, [0]⟩), (5, .bp 350001 0 []), (6, .own (.lst (acc.map lcv)) 200038), (200038, .tok 42 1), (450001, .obj)]) ⟨by kernel_rfl, by kernel_rfl, by kernel_rfl, by kernel_rfl, by kernel_rfl, by kernel_rfl, trivial⟩ (by kernel_rfl) rfl rfl rfl (fun o av h1 h2 => by
        rw [lN (by unfold fKey; omega), lN (by unfold fKey; omega), lN (by unfold fKey; omega), lN (by unfold fKey; omega), lN (by unfold fKey; omega), lN (by unfold fKey; omega)] at h1
        cases h1)) ?_
      refine AWp.wk (wk_sub (s' := [(2, .bp 2 0 []), (100002, ⟨5, sgcZ, 1, 0, [0]⟩), (5, .bp 350001 0 []), (6, .own (.lst (acc.map lcv)) 200038), (200038, .tok 42 1), (450001, .obj), (35500100, .val (sgv st'.sg))]) ⟨by kernel_rfl, by kernel_rfl, by kernel_rfl, by kernel_rfl, by kernel_rfl, by kernel_rfl, by kernel_rfl, trivial⟩) ?_
      refine aS (aR ?_)
      (refine nx (aM (gN rfl) rfl rfl rfl rfl rfl) rfl ?_)
      (refine nx (aNc (gN rfl) rfl rfl rfl rfl rfl) rfl ?_)
      (refine nx (aF (gN rfl) rfl rfl rfl rfl rfl rfl rfl rfl rfl) rfl ?_)
      (refine nx (aLf (gN rfl) rfl rfl rfl rfl rfl rfl rfl rfl rfl rfl rfl rfl rfl) rfl ?_)
      (refine nx (aM (gN rfl) rfl rfl rfl rfl rfl) rfl ?_)
      (refine nx (aSt (gN rfl) rfl rfl rfl rfl rfl rfl rfl rfl rfl rfl) rfl ?_)
      (refine nx (aA (gN rfl) rfl rfl rfl rfl rfl) rfl ?_)
      (refine nx (aA (gN rfl) rfl rfl rfl rfl rfl) rfl ?_)
      show AWp _ _ _ _ _ _ _
      exact aT (And.intro (.inr rfl) rfl)
end Go.Proofs.YtglbohajmccehaaDoor

