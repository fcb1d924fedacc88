/-
  UnRefW UnMidW SbVnt2 Un8A AbRowO Un8B SbNormEq
-/
import Derived.Test.YtiammidklcjelaaMg8
import Derived.Test.YtiammidklcjelaaMg5
import Derived.Test.YtiammidklcjelaaMg3
import Derived.Test.YtiammidklcjelaaMg2
namespace Go.Proofs.Ytiammidklcjelaa
open Go.RowKit
set_option linter.unusedVariables false
set_option linter.unusedSimpArgs false
set_option maxRecDepth 100000
theorem nubL8 : ∀ l : List Int, (nub l).length ≤ l.length := by
  refine snoc_ind (by simp [nub]) fun l x ih => ?_
  rw [nub_snoc, List.length_append]
  split
  · simp only [List.length_cons, List.length_nil]; omega
  · rw [List.length_append]; simp only [List.length_cons, List.length_nil]; omega
theorem vsL8 (t : Tm) : t.vs.length ≤ t.size := by
  unfold Tm.vs Tm.size vsL
  rw [List.length_map]
  exact List.length_filter_le _ _
-- 
theorem refIn_abs (W : World) (v : Int) (t : Tm) (hr : t.rng) (hok : t.ok) (hs : t.size ≤ 90000000000) : AFun Try.prog W 60 [.i v, t.cw] (.val (.b (decide (v ∈ t.vs)))) := by
  obtain ⟨V, hV⟩ : ∃ V, V = t.nv := ⟨_, rfl⟩
  have hvv := refVars_abs W t hr hok hs
  rw [nv_vars, ← hV] at hvv
  have hVl : V.length ≤ 90000000000 := by
    rw [hV]
    have h1 : (nub t.vs).length ≤ t.vs.length := nubL8 t.vs
    have h2 := vsL8 t
    show (nub t.vs).length ≤ _
    omega
  have hVs := ints_size V
  have hmem : v ∈ t.vs ↔ v ∈ V := by rw [hV]; exact (mem_nub _ _).symm
  refine afun_of (rs := [.b (decide (v ∈ t.vs))]) Try.func60 Try.ntmps60 rfl rfl rfl rfl ?_
  intro w U hW
  refine aS (aR ?_)
  (refine nx (a_box (gN rfl) rfl rfl rfl rfl rfl) rfl ?_)
  (refine nx (aA (gN rfl) rfl rfl rfl rfl rfl) rfl ?_)
  show AWp _ _ _ _ _ _ _
  refine aS (aR ?_)
  (refine nx (aL (gN rfl) rfl rfl rfl rfl rfl rfl rfl rfl rfl rfl rfl rfl) rfl ?_)
  (refine nx (a_call (gN rfl) rfl rfl rfl rfl rfl (hvv.up hW)) rfl ?_)
  (refine nx (aA (gN rfl) rfl rfl rfl rfl rfl) rfl ?_)
  show AWp _ _ _ _ _ _ _
  refine aS (aS (aR ?_))
  (refine nx (aA (gN rfl) rfl rfl rfl rfl rfl) rfl ?_)
  show AWp _ _ _ _ _ _ _
  refine aB (awp_countI V.length (fun k => v ∉ V.take k) (fun k => [(0, .val (.i v)), (5, .val (.lst (V.map CV.i))), (6, .val (.i k))]) (wk_sub ⟨rfl, rfl, rfl, trivial⟩) (by simp) ?_)
  intro k hk hI
  refine aS (aS (aR ?_))
  (refine nx (aM (gN rfl) rfl rfl rfl rfl rfl) rfl ?_)
  (refine nx (aM (gN rfl) rfl rfl rfl rfl rfl) rfl ?_)
  (refine nx (a_len (gN rfl) rfl rfl rfl rfl rfl rfl rfl) rfl ?_)
  (refine nx (a_lss (gN rfl) rfl rfl rfl rfl rfl rfl) rfl ?_)
  show AWp _ _ _ _ _ _ _
  refine aC rfl (fun hlt => ?_) (fun hlt => ?_)
  · have hkl : k < V.length := by simpa using hlt
    obtain ⟨u, hu⟩ : ∃ u, V[k]? = some u := ⟨V[k], List.getElem?_eq_getElem hkl⟩
    have hu' := ints_at hu
    refine aK ?_
    show AWp _ _ _ _ _ _ _
    refine aS (aB (aS (aR ?_)))
    (refine nx (aM (gN rfl) rfl rfl rfl rfl rfl) rfl ?_)
    (refine nx (aM (gN rfl) rfl rfl rfl rfl rfl) rfl ?_)
    (refine nx (a_index (j := k) (gN rfl) rfl rfl rfl rfl rfl rfl rfl rfl rfl (hu') rfl (hVs)) rfl ?_)
    (refine nx (a_load_ad (gN rfl) rfl rfl rfl rfl rfl rfl rfl rfl rfl) rfl ?_)
    (refine nx (aM (gN rfl) rfl rfl rfl rfl rfl) rfl ?_)
    (refine nx (a_eql (gN rfl) rfl rfl rfl rfl rfl rfl) rfl ?_)
    show AWp _ _ _ _ _ _ _
    refine aC rfl (fun hc => ?_) (fun hc => ?_)
    · have hc : u = v := by simpa using hc
      have hyes : decide (v ∈ t.vs) = true := by rw [decide_eq_true_eq, hmem, ← hc]; exact List.mem_of_getElem? hu
      rw [hyes]
      refine aS (aR ?_)
      (refine nx (aA (gN rfl) rfl rfl rfl rfl rfl) rfl ?_)
      show AWp _ _ _ _ _ _ _
      exact aT (And.intro (.inr rfl) rfl)
    · have hc : ¬ u = v := by simpa using hc
      refine aK ?_
      show AWp _ _ _ _ _ _ _
      refine aR ?_
      (refine nx (aM (gN rfl) rfl rfl rfl rfl rfl) rfl ?_)
      (refine nx (a_add (gN rfl) rfl rfl rfl rfl rfl rfl (by first | omega | (simp only [List.length_map, List.length_append, List.length_cons, List.length_nil] <;> omega) | (simp <;> omega))) rfl ?_)
      (refine nx (aA (gN rfl) rfl rfl rfl rfl rfl) rfl ?_)
      refine ⟨hkl, ?_, wk_sub ⟨rfl, rfl, rfl, trivial⟩⟩
      show v ∉ V.take (k + 1)
      rw [List.take_add_one, hu, List.mem_append]
      rintro (h | h)
      · exact hI h
      · simp at h; exact hc h.symm
  · have hkl : k = V.length := by
      have : ¬ k < V.length := by simpa using hlt
      omega
    subst hkl
    rw [List.take_length] at hI
    have hno : decide (v ∈ t.vs) = false := by rw [decide_eq_false_iff_not, hmem]; exact hI
    rw [hno]
    refine aE ?_
    show AWp _ _ _ _ _ _ _
    refine aS (aR ?_)
    (refine nx (aA (gN rfl) rfl rfl rfl rfl rfl) rfl ?_)
    show AWp _ _ _ _ _ _ _
    exact aT (And.intro (.inr rfl) rfl)
-- 
set_option maxHeartbeats 1000000 in
theorem refBound_abs (W : World) (s : List Bd) (v : Int) (t : Tm) (hl : s.length ≤ 1000000) (hs : ∀ b ∈ s, b.t.rng ∧ b.t.ok) : AFun Try.prog W 61 [.lst (s.map Bd.cv), .i v, t.cw] (.val (.lst ((bndS s v t).map Bd.cv))) := by
  have hsz := Bd.size_all s
  obtain ⟨g, hg⟩ : ∃ g : Bd → Bd, g = fun b => ⟨b.v, appR [⟨v, t⟩] b.t⟩ := ⟨_, rfl⟩
  have hB : bndS s v t = s.map g ++ [⟨v, t⟩] := by unfold bndS; rw [hg]
  rw [hB]
  refine afun_of (rs := [.lst ((s.map g ++ [(⟨v, t⟩ : Bd)]).map Bd.cv)]) Try.func61 Try.ntmps61 rfl rfl rfl rfl ?_
  intro w U hW
  refine aS (aR ?_)
  (refine nx (a_box (gN rfl) rfl rfl rfl rfl rfl) rfl ?_)
  (refine nx (aA (gN rfl) rfl rfl rfl rfl rfl) rfl ?_)
  show AWp _ _ _ _ _ _ _
  refine aS (aR ?_)
  (refine nx (aM (gN rfl) rfl rfl rfl rfl rfl) rfl ?_)
  (refine nx (aL (gN rfl) rfl rfl rfl rfl rfl rfl rfl rfl rfl rfl rfl rfl) rfl ?_)
  (refine nx (a_build (gN rfl) rfl rfl rfl rfl rfl rfl rfl rfl rfl rfl rfl) rfl ?_)
  (refine nx (a_bslice (gN rfl) rfl rfl rfl rfl rfl rfl rfl rfl rfl rfl rfl rfl rfl) rfl ?_)
  (refine nx (aA (gN rfl) rfl rfl rfl rfl rfl) rfl ?_)
  show AWp _ _ _ _ _ _ _
  refine aS (aR ?_)
  (refine nx (aA (gN rfl) rfl rfl rfl rfl rfl) rfl ?_)
  show AWp _ _ _ _ _ _ _
  refine aS (aS (aR ?_))
  (refine nx (aA (gN rfl) rfl rfl rfl rfl rfl) rfl ?_)
  show AWp _ _ _ _ _ _ _
  refine aB (awp_count s.length (fun k => [(0, .val (.lst (s.map Bd.cv))), (7, .val (.lst [Bd.cw ⟨v, t⟩])), (8, .own (.lst (((s.take k).map g).map Bd.cv)) 200035), (200035, .tok 88 3), (9, .val (.i k))]) ((wk_nil 8 200035 88 3 rfl rfl rfl rfl rfl rfl rfl).trans (wk_sub ⟨rfl, rfl, rfl, rfl, rfl, trivial⟩)) ?_)
  intro k hk
  have hks := Bd.size_all ((s.take k).map g)
  refine aS (aS (aR ?_))
  (refine nx (aM (gN rfl) rfl rfl rfl rfl rfl) rfl ?_)
  (refine nx (aM (gN rfl) rfl rfl rfl rfl rfl) rfl ?_)
  (refine nx (a_len (gN rfl) rfl rfl rfl rfl rfl rfl rfl) rfl ?_)
  (refine nx (a_lss (gN rfl) rfl rfl rfl rfl rfl rfl) rfl ?_)
  show AWp _ _ _ _ _ _ _
  refine aC rfl (fun hlt => ?_) (fun hlt => ?_)
  · have hkl : k < s.length := by simpa using hlt
    obtain ⟨b, hb⟩ : ∃ b, s[k]? = some b := ⟨s[k], List.getElem?_eq_getElem hkl⟩
    have hb' := Bd.map_at hb
    obtain ⟨b1, b2⟩ := hs b (List.mem_of_getElem? hb)
    have hap := refApply_abs w [⟨v, t⟩] (by simp) b.t b1 b2
    have hkn : ((s.take k).map g).length ≤ 1000000 := by rw [List.length_map, List.length_take]; omega
    refine aK ?_
    show AWp _ _ _ _ _ _ _
    refine aS (aB (aD (by kernel_rfl) (by kernel_rfl) ?_))
    (refine nx (aM (gN rfl) rfl rfl rfl rfl rfl) rfl ?_)
    (refine nx (aM (gN rfl) rfl rfl rfl rfl rfl) rfl ?_)
    (refine nx (aM (gN rfl) rfl rfl rfl rfl rfl) rfl ?_)
    (refine nx (a_index (j := k) (gN rfl) rfl rfl rfl rfl rfl rfl rfl rfl rfl (hb') rfl (hsz)) rfl ?_)
    (refine nx (a_field_ad (gN rfl) rfl rfl rfl rfl rfl rfl rfl rfl rfl rfl rfl) rfl ?_)
    (refine nx (a_load_ad (gN rfl) rfl rfl rfl rfl rfl rfl rfl rfl rfl) rfl ?_)
    (refine nx (aM (gN rfl) rfl rfl rfl rfl rfl) rfl ?_)
    (refine nx (aM (gN rfl) rfl rfl rfl rfl rfl) rfl ?_)
    (refine nx (aM (gN rfl) rfl rfl rfl rfl rfl) rfl ?_)
    (refine nx (a_index (j := k) (gN rfl) rfl rfl rfl rfl rfl rfl rfl rfl rfl (hb') rfl (hsz)) rfl ?_)
    (refine nx (a_field_ad (gN rfl) rfl rfl rfl rfl rfl rfl rfl rfl rfl rfl rfl) rfl ?_)
    (refine nx (a_load_ad (gN rfl) rfl rfl rfl rfl rfl rfl rfl rfl rfl) rfl ?_)
    (refine nx (a_call (gN rfl) rfl rfl rfl rfl rfl (hap)) rfl ?_)
    (refine nx (a_build (gN rfl) rfl rfl rfl rfl rfl rfl rfl rfl rfl rfl rfl) rfl ?_)
    (refine nx (a_bslice (gN rfl) rfl rfl rfl rfl rfl rfl rfl rfl rfl rfl rfl rfl rfl) rfl ?_)
    (refine nx (a_app (gN rfl) rfl rfl rfl rfl rfl rfl rfl rfl rfl rfl rfl rfl rfl rfl rfl (by first | assumption | exact sZ rfl | exact Tm.size_all _ | exact Bd.size_all _ | exact ints_size _ | exact bys_size _ | exact Lt.size_all _) (by first | assumption | exact sZ rfl | exact Tm.size_all _ | exact Bd.size_all _ | exact ints_size _ | exact bys_size _ | exact Lt.size_all _) (by first | omega | (simp only [List.length_map, List.length_append, List.length_cons, List.length_nil] <;> omega) | (simp <;> omega))) rfl ?_)
    (refine nx (aA (gN rfl) rfl rfl rfl rfl rfl) rfl ?_)
    refine ⟨by kernel_rfl, ?_⟩
    show AWp _ _ _ _ _ _ _
    refine aR ?_
    (refine nx (aM (gN rfl) rfl rfl rfl rfl rfl) rfl ?_)
    (refine nx (a_add (gN rfl) rfl rfl rfl rfl rfl rfl (by first | omega | (simp only [List.length_map, List.length_append, List.length_cons, List.length_nil] <;> omega) | (simp <;> omega))) rfl ?_)
    (refine nx (aA (gN rfl) rfl rfl rfl rfl rfl) rfl ?_)
    refine ⟨hkl, Wk.trans (wk_sub (s' := [(0, .val (.lst (s.map Bd.cv))), (7, .val (.lst [Bd.cw ⟨v, t⟩])), (8, .own (.lst (((s.take (k + 1)).map g).map Bd.cv)) 300035), (300035, .tok 88 3), (9, .val (.i ((k + 1 : Nat) : Int)))]) ⟨rfl, rfl, ?_, rfl, rfl, trivial⟩) (wk_ren 300035 200035 rfl rfl rfl rfl)⟩
    rw [List.take_add_one, hb, List.map_append, List.map_append, hg]
    rfl
  · have hkl : k = s.length := by
      have : ¬ k < s.length := by simpa using hlt
      omega
    subst hkl
    rw [List.take_length] at hks ⊢
    have hkn : (s.map g).length ≤ 1000000 := by rw [List.length_map]; omega
    refine aE ?_
    show AWp _ _ _ _ _ _ _
    refine aS (aR ?_)
    (refine nx (aM (gN rfl) rfl rfl rfl rfl rfl) rfl ?_)
    (refine nx (aM (gN rfl) rfl rfl rfl rfl rfl) rfl ?_)
    (refine nx (a_app (gN rfl) rfl rfl rfl rfl rfl rfl rfl rfl rfl rfl rfl rfl rfl rfl rfl (by first | assumption | exact sZ rfl | exact Tm.size_all _ | exact Bd.size_all _ | exact ints_size _ | exact bys_size _ | exact Lt.size_all _) (by first | assumption | exact sZ rfl | exact Tm.size_all _ | exact Bd.size_all _ | exact ints_size _ | exact bys_size _ | exact Lt.size_all _) (by first | omega | (simp only [List.length_map, List.length_append, List.length_cons, List.length_nil] <;> omega) | (simp <;> omega))) rfl ?_)
    (refine nx (aA (gN rfl) rfl rfl rfl rfl rfl) rfl ?_)
    show AWp _ _ _ _ _ _ _
    refine aT (And.intro (.inr rfl) ?_)
    rw [List.map_append]
    rfl
theorem appR_rng {l : List Bd} {t : Tm} (h : t.rng) (hi : ∀ b ∈ l, b.t.rng) : (appR l t).rng := by
  induction t using Tm.ind with
  | h f k ih =>
    obtain ⟨h1, h2⟩ := (Tm.rng_iff _).1 h
    simp only at h1 h2
    by_cases hf : f < 0
    · rw [appR_var hf]
      unfold imgB
      cases hb : findB l (-1 - (Tm.mk f k).f) with
      | none =>
        show (varT (-1 - f)).rng
        exact leaf_rng (by omega) (by omega)
      | some t =>
        obtain ⟨b, hbm, e, _⟩ := findB_mem hb
        show t.rng
        rw [← e]; exact hi b hbm
    · rw [appR_sym hf]
      refine (Tm.rng_iff _).2 ⟨h1, fun s hs => ?_⟩
      obtain ⟨u, hu, rfl⟩ := List.mem_map.1 hs
      exact ih u hu (h2 u hu)
def CndL (g : List Bd → Tm → Tm → Option (Option (List Bd))) (C : List Bd → Tm → Tm → Prop) : List (Tm × Tm) → List Bd → Prop
  | [], _ => True
  | p :: ps, s => C s p.1 p.2 ∧ ∀ s', g s p.1 p.2 = some (some s') → CndL g C ps s'
def Cnd : Nat → List Bd → Tm → Tm → Prop
  | 0, _, _, _ => True
  | n + 1, s, a, b => (s.length ≤ 100000 ∧ ∀ x ∈ s, x.t.rng ∧ x.t.ok) ∧ (a.rng ∧ a.ok ∧ b.rng ∧ b.ok) ∧ ((appR s a).size ≤ 90000000000 ∧ (appR s b).size ≤ 90000000000) ∧ ∀ a2 b2 : Tm, a2 = (if swC (appR s a) (appR s b) then appR s b else appR s a) → b2 = (if swC (appR s a) (appR s b) then appR s a else appR s b) → ¬ a2.f < 0 → a2.f = b2.f → a2.l.length = b2.l.length → CndL (rU n) (Cnd n) (a2.l.zip b2.l) s
-- 
set_option maxHeartbeats 8000000 in
theorem refUnify_abs : ∀ (n : Nat) (W : World) (s : List Bd) (a b : Tm) (r : Option (List Bd)), rU n s a b = some r → Cnd n s a b → AFun Try.prog W 38 [.lst (s.map Bd.cv), a.cw, b.cw] (.tup [.lst ((r.getD []).map Bd.cv), .b r.isSome]) := by
  intro n
  induction n with
  | zero => intro W s a b r e; cases e
  | succ n ih =>
  intro W s a b r hr hC
  obtain ⟨⟨hsl, hso⟩, ⟨ha, hao, hb, hbo⟩, ⟨hza, hzb⟩, hCL⟩ := hC
  refine afun_of (rs := [.lst ((r.getD []).map Bd.cv), .b r.isSome]) Try.func38 Try.ntmps38 rfl rfl rfl rfl ?_
  intro w U hW
  have p1 := refApply_abs w s (by omega) a ha hao
  have p2 := refApply_abs w s (by omega) b hb hbo
  have hra := appR_rng ha fun x hx => (hso x hx).1
  have hrb := appR_rng hb fun x hx => (hso x hx).1
  have hoa := appR_ok hao fun x hx => (hso x hx).2
  have hob := appR_ok hbo fun x hx => (hso x hx).2
  have p3 := refSame_abs w _ _ hoa hob
  rw [rU] at hr
  obtain ⟨a1, e1⟩ : ∃ a1, a1 = appR s a := ⟨_, rfl⟩
  obtain ⟨b1, e2⟩ : ∃ b1, b1 = appR s b := ⟨_, rfl⟩
  rw [← e1, ← e2] at hr hCL p3
  rw [← e1] at p1 hra hoa hza
  rw [← e2] at p2 hrb hob hzb
  refine aS (aR ?_)
  (refine nx (a_box (gN rfl) rfl rfl rfl rfl rfl) rfl ?_)
  (refine nx (a_box (gN rfl) rfl rfl rfl rfl rfl) rfl ?_)
  (refine nx (aA (gN rfl) rfl rfl rfl rfl rfl) rfl ?_)
  (refine nx (aA (gN rfl) rfl rfl rfl rfl rfl) rfl ?_)
  show AWp _ _ _ _ _ _ _
  refine aS (aR ?_)
  (refine nx (aM (gN rfl) rfl rfl rfl rfl rfl) rfl ?_)
  (refine nx (aL (gN rfl) rfl rfl rfl rfl rfl rfl rfl rfl rfl rfl rfl rfl) rfl ?_)
  (refine nx (a_call (gN rfl) rfl rfl rfl rfl rfl (p1)) rfl ?_)
  (refine nx (aSt (gN rfl) rfl rfl rfl rfl rfl rfl rfl rfl rfl rfl) rfl ?_)
  show AWp _ _ _ _ _ _ _
  refine aS (aR ?_)
  (refine nx (aM (gN rfl) rfl rfl rfl rfl rfl) rfl ?_)
  (refine nx (aL (gN rfl) rfl rfl rfl rfl rfl rfl rfl rfl rfl rfl rfl rfl) rfl ?_)
  (refine nx (a_call (gN rfl) rfl rfl rfl rfl rfl (p2)) rfl ?_)
  (refine nx (aSt (gN rfl) rfl rfl rfl rfl rfl rfl rfl rfl rfl rfl) rfl ?_)
  show AWp _ _ _ _ _ _ _
  refine aS (aS (aR ?_))
  (refine nx (aL (gN rfl) rfl rfl rfl rfl rfl rfl rfl rfl rfl rfl rfl rfl) rfl ?_)
  (refine nx (aL (gN rfl) rfl rfl rfl rfl rfl rfl rfl rfl rfl rfl rfl rfl) rfl ?_)
  (refine nx (a_call (gN rfl) rfl rfl rfl rfl rfl (p3)) rfl ?_)
  show AWp _ _ _ _ _ _ _
  cases hsm : sameT a1 b1 with
  | true =>
    rw [hsm, if_pos rfl] at hr
    cases hr
    refine aC rfl (fun hc => ?_) (fun hc => by cases hc)
    refine aS (aR ?_)
    (refine nx (aM (gN rfl) rfl rfl rfl rfl rfl) rfl ?_)
    (refine nx (aA (gN rfl) rfl rfl rfl rfl rfl) rfl ?_)
    (refine nx (aA (gN rfl) rfl rfl rfl rfl rfl) rfl ?_)
    show AWp _ _ _ _ _ _ _
    exact aT (And.intro (.inr rfl) rfl)
  | false =>
  rw [hsm, if_neg (by simp)] at hr
  refine aC rfl (fun hc => by cases hc) (fun hc => aK ?_)
  show AWp _ _ _ _ _ _ _
  refine AWp.wk (wk_sub (s' := [(0, .val (.lst (s.map Bd.cv))), (4, .bp 4 0 []), (100004, .bx a1.cw), (5, .bp 5 0 []), (100005, .bx b1.cw)]) ⟨rfl, rfl, rfl, rfl, rfl, trivial⟩) ?_
  obtain ⟨a2, ha2⟩ : ∃ a2, a2 = (if swC a1 b1 then b1 else a1) := ⟨_, rfl⟩
  obtain ⟨b2, hb2⟩ : ∃ b2, b2 = (if swC a1 b1 then a1 else b1) := ⟨_, rfl⟩
  have hCL := hCL a2 b2 ha2 hb2
  have hr : rUgo (rU n) s a2 b2 = some r := by
    rw [ha2, hb2]
    split at hr
    · rename_i h; rw [if_pos h, if_pos h]; exact hr
    · rename_i h; rw [if_neg h, if_neg h]; exact hr
  have hra2 : a2.rng ∧ a2.ok ∧ a2.size ≤ 90000000000 := by rw [ha2]; split <;> exact ⟨by assumption, by assumption, by assumption⟩
  have hrb2 : b2.rng ∧ b2.ok ∧ b2.size ≤ 90000000000 := by rw [hb2]; split <;> exact ⟨by assumption, by assumption, by assumption⟩
  refine awp_mid [(0, .val (.lst (s.map Bd.cv))), (4, .bp 4 0 []), (100004, .bx a2.cw), (5, .bp 5 0 []), (100005, .bx b2.cw)] ?_ ?_
  · by_cases fa : a1.f ≥ 0
    · have g1 : decide (a1.f ≥ 0) = true := by simpa using fa
      have g3 : decide (a1.f < 0) = false := by simpa using fa
      by_cases fb : b1.f < 0
      · have g2 : decide (b1.f < 0) = true := by simpa using fb
        have hsw : swC a1 b1 = true := by unfold swC; simp [fa, fb]
        rw [hsw, if_pos rfl] at ha2 hb2
        refine aS (aR ?_)
        (refine nx (aF (gN rfl) rfl rfl rfl rfl rfl rfl rfl rfl rfl) rfl ?_)
        (refine nx (aLb (gN rfl) rfl rfl rfl rfl rfl rfl rfl rfl rfl rfl rfl rfl) rfl ?_)
        (refine nx (a_geq (gN rfl) rfl rfl rfl rfl rfl rfl) rfl ?_)
        (refine nx (aM (gN rfl) rfl rfl rfl rfl rfl) rfl ?_)
        (refine nx (aF (gd_on rfl rfl rfl rfl (by first | rfl | assumption | (simp; done))) rfl rfl rfl rfl rfl rfl rfl rfl rfl) rfl ?_)
        (refine nx (aLb (gd_on rfl rfl rfl rfl (by first | rfl | assumption | (simp; done))) rfl rfl rfl rfl rfl rfl rfl rfl rfl rfl rfl rfl) rfl ?_)
        (refine nx (a_lss (gd_on rfl rfl rfl rfl (by first | rfl | assumption | (simp; done))) rfl rfl rfl rfl rfl rfl) rfl ?_)
        (refine ⟨_, _, _, aPt (gN rfl) rfl rfl rfl rfl rfl ?hb rfl, rfl, ?_⟩; case hb => (first | rfl | assumption | (simp; done)))
        (refine nx (aM (gN rfl) rfl rfl rfl rfl rfl) rfl ?_)
        (refine ⟨_, _, _, a_offt (go_off rfl rfl rfl rfl (by first | rfl | assumption | (simp; done) | (simp [*]; done))) rfl rfl rfl, rfl, ?_⟩)
        (refine ⟨_, _, _, a_offt (go_off rfl rfl rfl rfl (by first | rfl | assumption | (simp; done) | (simp [*]; done))) rfl rfl rfl, rfl, ?_⟩)
        (refine ⟨_, _, _, a_offt (go_off rfl rfl rfl rfl (by first | rfl | assumption | (simp; done) | (simp [*]; done))) rfl rfl rfl, rfl, ?_⟩)
        (refine ⟨_, _, _, a_offt (go_off rfl rfl rfl rfl (by first | rfl | assumption | (simp; done) | (simp [*]; done))) rfl rfl rfl, rfl, ?_⟩)
        (refine ⟨_, _, _, a_offt (go_off_t rfl rfl rfl rfl) rfl rfl rfl, rfl, ?_⟩)
        (refine ⟨_, _, _, a_offt (go_off_t rfl rfl rfl rfl) rfl rfl rfl, rfl, ?_⟩)
        (refine ⟨_, _, _, a_offt (go_off_t rfl rfl rfl rfl) rfl rfl rfl, rfl, ?_⟩)
        (refine ⟨_, _, _, a_offt (go_off rfl rfl rfl rfl (by first | rfl | assumption | (simp; done) | (simp [*]; done))) rfl rfl rfl, rfl, ?_⟩)
        (refine ⟨_, _, _, a_offt (go_off rfl rfl rfl rfl (by first | rfl | assumption | (simp; done) | (simp [*]; done))) rfl rfl rfl, rfl, ?_⟩)
        (refine ⟨_, _, _, a_offt (go_off_t rfl rfl rfl rfl) rfl rfl rfl, rfl, ?_⟩)
        (refine ⟨_, _, _, a_offt (go_off_t rfl rfl rfl rfl) rfl rfl rfl, rfl, ?_⟩)
        (refine ⟨_, _, _, a_offt (go_off_t rfl rfl rfl rfl) rfl rfl rfl, rfl, ?_⟩)
        (refine ⟨_, _, _, a_offt (go_off_t rfl rfl rfl rfl) rfl rfl rfl, rfl, ?_⟩)
        (refine ⟨_, _, _, a_offt (go_off_t rfl rfl rfl rfl) rfl rfl rfl, rfl, ?_⟩)
        (refine ⟨_, _, _, a_offt (go_off rfl rfl rfl rfl (by first | rfl | assumption | (simp; done) | (simp [*]; done))) rfl rfl rfl, rfl, ?_⟩)
        (refine ⟨_, _, _, aPt (gN rfl) rfl rfl rfl rfl rfl ?hb rfl, rfl, ?_⟩; case hb => (first | rfl | assumption | (simp; done)))
        show AWp _ _ _ _ _ _ _
        refine aC rfl (fun hc => ?_) (fun hc => by cases hc)
        refine aS (aR ?_)
        (refine nx (aL (gN rfl) rfl rfl rfl rfl rfl rfl rfl rfl rfl rfl rfl rfl) rfl ?_)
        (refine nx (a_alloc (gN rfl) rfl rfl rfl rfl rfl rfl rfl rfl rfl rfl) rfl ?_)
        (refine nx (aSt (gN rfl) rfl rfl rfl rfl rfl rfl rfl rfl rfl rfl) rfl ?_)
        show AWp _ _ _ _ _ _ _
        refine aS (aR ?_)
        (refine nx (aL (gN rfl) rfl rfl rfl rfl rfl rfl rfl rfl rfl rfl rfl rfl) rfl ?_)
        (refine nx (aSt (gN rfl) rfl rfl rfl rfl rfl rfl rfl rfl rfl rfl) rfl ?_)
        show AWp _ _ _ _ _ _ _
        refine aR ?_
        (refine nx (aL (gN rfl) rfl rfl rfl rfl rfl rfl rfl rfl rfl rfl rfl rfl) rfl ?_)
        (refine nx (aSt (gN rfl) rfl rfl rfl rfl rfl rfl rfl rfl rfl rfl) rfl ?_)
        rw [ha2, hb2]
        exact wk_sub ⟨rfl, rfl, rfl, rfl, rfl, trivial⟩
      · have g2 : decide (b1.f < 0) = false := by simpa using fb
        have hsw : swC a1 b1 = false := by unfold swC; simp [fb]
        rw [hsw, if_neg (by simp)] at ha2 hb2
        refine aS (aR ?_)
        (refine nx (aF (gN rfl) rfl rfl rfl rfl rfl rfl rfl rfl rfl) rfl ?_)
        (refine nx (aLb (gN rfl) rfl rfl rfl rfl rfl rfl rfl rfl rfl rfl rfl rfl) rfl ?_)
        (refine nx (a_geq (gN rfl) rfl rfl rfl rfl rfl rfl) rfl ?_)
        (refine nx (aM (gN rfl) rfl rfl rfl rfl rfl) rfl ?_)
        (refine nx (aF (gd_on rfl rfl rfl rfl (by first | rfl | assumption | (simp; done))) rfl rfl rfl rfl rfl rfl rfl rfl rfl) rfl ?_)
        (refine nx (aLb (gd_on rfl rfl rfl rfl (by first | rfl | assumption | (simp; done))) rfl rfl rfl rfl rfl rfl rfl rfl rfl rfl rfl rfl) rfl ?_)
        (refine nx (a_lss (gd_on rfl rfl rfl rfl (by first | rfl | assumption | (simp; done))) rfl rfl rfl rfl rfl rfl) rfl ?_)
        (refine ⟨_, _, _, aPt (gN rfl) rfl rfl rfl rfl rfl ?hb rfl, rfl, ?_⟩; case hb => (first | rfl | assumption | (simp; done)))
        (refine nx (aM (gN rfl) rfl rfl rfl rfl rfl) rfl ?_)
        (refine nx (aF (gd_on rfl rfl rfl rfl (by first | rfl | assumption | (simp; done))) rfl rfl rfl rfl rfl rfl rfl rfl rfl) rfl ?_)
        (refine nx (aLb (gd_on rfl rfl rfl rfl (by first | rfl | assumption | (simp; done))) rfl rfl rfl rfl rfl rfl rfl rfl rfl rfl rfl rfl) rfl ?_)
        (refine nx (a_lss (gd_on rfl rfl rfl rfl (by first | rfl | assumption | (simp; done))) rfl rfl rfl rfl rfl rfl) rfl ?_)
        (refine nx (aM (gd_on rfl rfl rfl rfl (by first | rfl | assumption | (simp; done))) rfl rfl rfl rfl rfl) rfl ?_)
        (refine ⟨_, _, _, a_off (go_off rfl rfl rfl rfl (by first | rfl | assumption | (simp; done) | (simp [*]; done))) rfl rfl rfl, rfl, ?_⟩)
        (refine ⟨_, _, _, a_off (go_off rfl rfl rfl rfl (by first | rfl | assumption | (simp; done) | (simp [*]; done))) rfl rfl rfl, rfl, ?_⟩)
        (refine ⟨_, _, _, a_off (go_off rfl rfl rfl rfl (by first | rfl | assumption | (simp; done) | (simp [*]; done))) rfl rfl rfl, rfl, ?_⟩)
        (refine ⟨_, _, _, aPf (gd_on rfl rfl rfl rfl (by first | rfl | assumption | (simp; done))) rfl rfl rfl rfl rfl ?hb rfl, rfl, ?_⟩; case hb => (first | rfl | assumption | (simp; done)))
        (refine nx (aM (gd_on rfl rfl rfl rfl (by first | rfl | assumption | (simp; done))) rfl rfl rfl rfl rfl) rfl ?_)
        (refine ⟨_, _, _, a_off (go_off rfl rfl rfl rfl (by first | rfl | assumption | (simp; done) | (simp [*]; done))) rfl rfl rfl, rfl, ?_⟩)
        (refine ⟨_, _, _, a_off (go_off rfl rfl rfl rfl (by first | rfl | assumption | (simp; done) | (simp [*]; done))) rfl rfl rfl, rfl, ?_⟩)
        (refine ⟨_, _, _, a_off (go_off rfl rfl rfl rfl (by first | rfl | assumption | (simp; done) | (simp [*]; done))) rfl rfl rfl, rfl, ?_⟩)
        (refine ⟨_, _, _, a_off (go_off rfl rfl rfl rfl (by first | rfl | assumption | (simp; done) | (simp [*]; done))) rfl rfl rfl, rfl, ?_⟩)
        (refine ⟨_, _, _, a_off (go_off rfl rfl rfl rfl (by first | rfl | assumption | (simp; done) | (simp [*]; done))) rfl rfl rfl, rfl, ?_⟩)
        (refine ⟨_, _, _, aPf (gd_on rfl rfl rfl rfl (by first | rfl | assumption | (simp; done))) rfl rfl rfl rfl rfl ?hb rfl, rfl, ?_⟩; case hb => (first | rfl | assumption | (simp; done)))
        (refine ⟨_, _, _, aPf (gN rfl) rfl rfl rfl rfl rfl ?hb rfl, rfl, ?_⟩; case hb => (first | rfl | assumption | (simp; done)))
        show AWp _ _ _ _ _ _ _
        refine aC rfl (fun hc => by cases hc) (fun hc => aK ?_)
        rw [ha2, hb2]
        exact wk_sub ⟨rfl, rfl, rfl, rfl, rfl, trivial⟩
    · have g1 : decide (a1.f ≥ 0) = false := by simpa using fa
      have fa2 : a1.f < 0 := by omega
      have g3 : decide (a1.f < 0) = true := by simpa using fa2
      by_cases fb : b1.f < 0
      · have g2 : decide (b1.f < 0) = true := by simpa using fb
        have hsw : swC a1 b1 = decide (b1.f < a1.f) := by
          unfold swC
          have : decide (0 ≤ a1.f) = false := by simpa using fa
          rw [this, g2, g3]
          simp
        rw [hsw] at ha2 hb2
        refine aS (aR ?_)
        (refine nx (aF (gN rfl) rfl rfl rfl rfl rfl rfl rfl rfl rfl) rfl ?_)
        (refine nx (aLb (gN rfl) rfl rfl rfl rfl rfl rfl rfl rfl rfl rfl rfl rfl) rfl ?_)
        (refine nx (a_geq (gN rfl) rfl rfl rfl rfl rfl rfl) rfl ?_)
        (refine nx (aM (gN rfl) rfl rfl rfl rfl rfl) rfl ?_)
        (refine ⟨_, _, _, a_off (go_off rfl rfl rfl rfl (by first | rfl | assumption | (simp; done) | (simp [*]; done))) rfl rfl rfl, rfl, ?_⟩)
        (refine ⟨_, _, _, a_off (go_off rfl rfl rfl rfl (by first | rfl | assumption | (simp; done) | (simp [*]; done))) rfl rfl rfl, rfl, ?_⟩)
        (refine ⟨_, _, _, a_off (go_off rfl rfl rfl rfl (by first | rfl | assumption | (simp; done) | (simp [*]; done))) rfl rfl rfl, rfl, ?_⟩)
        (refine ⟨_, _, _, aPf (gN rfl) rfl rfl rfl rfl rfl ?hb rfl, rfl, ?_⟩; case hb => (first | rfl | assumption | (simp; done)))
        (refine nx (aM (gN rfl) rfl rfl rfl rfl rfl) rfl ?_)
        (refine nx (aF (gd_on rfl rfl rfl rfl (by first | rfl | assumption | (simp; done))) rfl rfl rfl rfl rfl rfl rfl rfl rfl) rfl ?_)
        (refine nx (aLb (gd_on rfl rfl rfl rfl (by first | rfl | assumption | (simp; done))) rfl rfl rfl rfl rfl rfl rfl rfl rfl rfl rfl rfl) rfl ?_)
        (refine nx (a_lss (gd_on rfl rfl rfl rfl (by first | rfl | assumption | (simp; done))) rfl rfl rfl rfl rfl rfl) rfl ?_)
        (refine nx (aM (gd_on rfl rfl rfl rfl (by first | rfl | assumption | (simp; done))) rfl rfl rfl rfl rfl) rfl ?_)
        (refine nx (aF (gd_on rfl rfl rfl rfl (by first | rfl | assumption | (simp; done))) rfl rfl rfl rfl rfl rfl rfl rfl rfl) rfl ?_)
        (refine nx (aLb (gd_on rfl rfl rfl rfl (by first | rfl | assumption | (simp; done))) rfl rfl rfl rfl rfl rfl rfl rfl rfl rfl rfl rfl) rfl ?_)
        (refine nx (a_lss (gd_on rfl rfl rfl rfl (by first | rfl | assumption | (simp; done))) rfl rfl rfl rfl rfl rfl) rfl ?_)
        (refine ⟨_, _, _, aPt (gd_on rfl rfl rfl rfl (by first | rfl | assumption | (simp; done))) rfl rfl rfl rfl rfl ?hb rfl, rfl, ?_⟩; case hb => (first | rfl | assumption | (simp; done)))
        (refine nx (aM (gd_on rfl rfl rfl rfl (by first | rfl | assumption | (simp; done))) rfl rfl rfl rfl rfl) rfl ?_)
        (refine nx (aF (gd_on rfl rfl rfl rfl (by first | rfl | assumption | (simp; done))) rfl rfl rfl rfl rfl rfl rfl rfl rfl) rfl ?_)
        (refine nx (aLb (gd_on rfl rfl rfl rfl (by first | rfl | assumption | (simp; done))) rfl rfl rfl rfl rfl rfl rfl rfl rfl rfl rfl rfl) rfl ?_)
        (refine nx (aF (gd_on rfl rfl rfl rfl (by first | rfl | assumption | (simp; done))) rfl rfl rfl rfl rfl rfl rfl rfl rfl) rfl ?_)
        (refine nx (aLb (gd_on rfl rfl rfl rfl (by first | rfl | assumption | (simp; done))) rfl rfl rfl rfl rfl rfl rfl rfl rfl rfl rfl rfl) rfl ?_)
        (refine nx (a_lss (gd_on rfl rfl rfl rfl (by first | rfl | assumption | (simp; done))) rfl rfl rfl rfl rfl rfl) rfl ?_)
        (refine ⟨_, _, _, aPt (gd_on rfl rfl rfl rfl (by first | rfl | assumption | (simp; done))) rfl rfl rfl rfl rfl ?hb rfl, rfl, ?_⟩; case hb => (first | rfl | assumption | (simp; done)))
        (refine ⟨_, _, _, aPf (gN rfl) rfl rfl rfl rfl rfl ?hb rfl, rfl, ?_⟩; case hb => (first | rfl | assumption | (simp; done)))
        show AWp _ _ _ _ _ _ _
        refine aC rfl (fun hc => ?_) (fun hc => ?_)
        · have hc : b1.f < a1.f := by simpa using hc
          rw [if_pos (by simpa using hc)] at ha2 hb2
          refine aS (aR ?_)
          (refine nx (aL (gN rfl) rfl rfl rfl rfl rfl rfl rfl rfl rfl rfl rfl rfl) rfl ?_)
          (refine nx (a_alloc (gN rfl) rfl rfl rfl rfl rfl rfl rfl rfl rfl rfl) rfl ?_)
          (refine nx (aSt (gN rfl) rfl rfl rfl rfl rfl rfl rfl rfl rfl rfl) rfl ?_)
          show AWp _ _ _ _ _ _ _
          refine aS (aR ?_)
          (refine nx (aL (gN rfl) rfl rfl rfl rfl rfl rfl rfl rfl rfl rfl rfl rfl) rfl ?_)
          (refine nx (aSt (gN rfl) rfl rfl rfl rfl rfl rfl rfl rfl rfl rfl) rfl ?_)
          show AWp _ _ _ _ _ _ _
          refine aR ?_
          (refine nx (aL (gN rfl) rfl rfl rfl rfl rfl rfl rfl rfl rfl rfl rfl rfl) rfl ?_)
          (refine nx (aSt (gN rfl) rfl rfl rfl rfl rfl rfl rfl rfl rfl rfl) rfl ?_)
          rw [ha2, hb2]
          exact wk_sub ⟨rfl, rfl, rfl, rfl, rfl, trivial⟩
        · have hc : ¬ b1.f < a1.f := by simpa using hc
          rw [if_neg (by simpa using hc)] at ha2 hb2
          refine aK ?_
          rw [ha2, hb2]
          exact wk_sub ⟨rfl, rfl, rfl, rfl, rfl, trivial⟩
      · have g2 : decide (b1.f < 0) = false := by simpa using fb
        have hsw : swC a1 b1 = false := by
          unfold swC
          have : decide (0 ≤ a1.f) = false := by simpa using fa
          rw [this, g2]
          simp
        rw [hsw, if_neg (by simp)] at ha2 hb2
        refine aS (aR ?_)
        (refine nx (aF (gN rfl) rfl rfl rfl rfl rfl rfl rfl rfl rfl) rfl ?_)
        (refine nx (aLb (gN rfl) rfl rfl rfl rfl rfl rfl rfl rfl rfl rfl rfl rfl) rfl ?_)
        (refine nx (a_geq (gN rfl) rfl rfl rfl rfl rfl rfl) rfl ?_)
        (refine nx (aM (gN rfl) rfl rfl rfl rfl rfl) rfl ?_)
        (refine ⟨_, _, _, a_off (go_off rfl rfl rfl rfl (by first | rfl | assumption | (simp; done) | (simp [*]; done))) rfl rfl rfl, rfl, ?_⟩)
        (refine ⟨_, _, _, a_off (go_off rfl rfl rfl rfl (by first | rfl | assumption | (simp; done) | (simp [*]; done))) rfl rfl rfl, rfl, ?_⟩)
        (refine ⟨_, _, _, a_off (go_off rfl rfl rfl rfl (by first | rfl | assumption | (simp; done) | (simp [*]; done))) rfl rfl rfl, rfl, ?_⟩)
        (refine ⟨_, _, _, aPf (gN rfl) rfl rfl rfl rfl rfl ?hb rfl, rfl, ?_⟩; case hb => (first | rfl | assumption | (simp; done)))
        (refine nx (aM (gN rfl) rfl rfl rfl rfl rfl) rfl ?_)
        (refine nx (aF (gd_on rfl rfl rfl rfl (by first | rfl | assumption | (simp; done))) rfl rfl rfl rfl rfl rfl rfl rfl rfl) rfl ?_)
        (refine nx (aLb (gd_on rfl rfl rfl rfl (by first | rfl | assumption | (simp; done))) rfl rfl rfl rfl rfl rfl rfl rfl rfl rfl rfl rfl) rfl ?_)
        (refine nx (a_lss (gd_on rfl rfl rfl rfl (by first | rfl | assumption | (simp; done))) rfl rfl rfl rfl rfl rfl) rfl ?_)
        (refine nx (aM (gd_on rfl rfl rfl rfl (by first | rfl | assumption | (simp; done))) rfl rfl rfl rfl rfl) rfl ?_)
        (refine nx (aF (gd_on rfl rfl rfl rfl (by first | rfl | assumption | (simp; done))) rfl rfl rfl rfl rfl rfl rfl rfl rfl) rfl ?_)
        (refine nx (aLb (gd_on rfl rfl rfl rfl (by first | rfl | assumption | (simp; done))) rfl rfl rfl rfl rfl rfl rfl rfl rfl rfl rfl rfl) rfl ?_)
        (refine nx (a_lss (gd_on rfl rfl rfl rfl (by first | rfl | assumption | (simp; done))) rfl rfl rfl rfl rfl rfl) rfl ?_)
        (refine ⟨_, _, _, aPt (gd_on rfl rfl rfl rfl (by first | rfl | assumption | (simp; done))) rfl rfl rfl rfl rfl ?hb rfl, rfl, ?_⟩; case hb => (first | rfl | assumption | (simp; done)))
        (refine nx (aM (gd_on rfl rfl rfl rfl (by first | rfl | assumption | (simp; done))) rfl rfl rfl rfl rfl) rfl ?_)
        (refine ⟨_, _, _, a_off (go_off rfl rfl rfl rfl (by first | rfl | assumption | (simp; done) | (simp [*]; done))) rfl rfl rfl, rfl, ?_⟩)
        (refine ⟨_, _, _, a_off (go_off rfl rfl rfl rfl (by first | rfl | assumption | (simp; done) | (simp [*]; done))) rfl rfl rfl, rfl, ?_⟩)
        (refine ⟨_, _, _, a_off (go_off rfl rfl rfl rfl (by first | rfl | assumption | (simp; done) | (simp [*]; done))) rfl rfl rfl, rfl, ?_⟩)
        (refine ⟨_, _, _, a_off (go_off rfl rfl rfl rfl (by first | rfl | assumption | (simp; done) | (simp [*]; done))) rfl rfl rfl, rfl, ?_⟩)
        (refine ⟨_, _, _, a_off (go_off rfl rfl rfl rfl (by first | rfl | assumption | (simp; done) | (simp [*]; done))) rfl rfl rfl, rfl, ?_⟩)
        (refine ⟨_, _, _, aPf (gd_on rfl rfl rfl rfl (by first | rfl | assumption | (simp; done))) rfl rfl rfl rfl rfl ?hb rfl, rfl, ?_⟩; case hb => (first | rfl | assumption | (simp; done)))
        (refine ⟨_, _, _, aPf (gN rfl) rfl rfl rfl rfl rfl ?hb rfl, rfl, ?_⟩; case hb => (first | rfl | assumption | (simp; done)))
        show AWp _ _ _ _ _ _ _
        refine aC rfl (fun hc => by cases hc) (fun hc => aK ?_)
        rw [ha2, hb2]
        exact wk_sub ⟨rfl, rfl, rfl, rfl, rfl, trivial⟩
  clear ha2 hb2 p1 p2 p3 hsm
  unfold rUgo at hr
  have hra3 := (Tm.rng_iff _).1 hra2.1
  refine aS (aS (aR ?_))
  (refine nx (aF (gN rfl) rfl rfl rfl rfl rfl rfl rfl rfl rfl) rfl ?_)
  (refine nx (aLb (gN rfl) rfl rfl rfl rfl rfl rfl rfl rfl rfl rfl rfl rfl) rfl ?_)
  (refine nx (a_lss (gN rfl) rfl rfl rfl rfl rfl rfl) rfl ?_)
  show AWp _ _ _ _ _ _ _
  by_cases fa : a2.f < 0
  case pos =>
    rw [if_pos fa] at hr
    have hin := refIn_abs w (-1 - a2.f) b2 hrb2.1 hrb2.2.1 hrb2.2.2
    refine aC rfl (fun hc => ?_) (fun hc => ?_)
    case refine_2 =>
      have : ¬ a2.f < 0 := by simpa using hc
      omega
    refine aS (aS (aR ?_))
    (refine nx (aF (gN rfl) rfl rfl rfl rfl rfl rfl rfl rfl rfl) rfl ?_)
    (refine nx (aLb (gN rfl) rfl rfl rfl rfl rfl rfl rfl rfl rfl rfl rfl rfl) rfl ?_)
    (refine nx (a_sub (gN rfl) rfl rfl rfl rfl rfl rfl (by first | omega | (simp only [List.length_map, List.length_append, List.length_cons, List.length_nil] <;> omega) | (simp <;> omega))) rfl ?_)
    (refine nx (aL (gN rfl) rfl rfl rfl rfl rfl rfl rfl rfl rfl rfl rfl rfl) rfl ?_)
    (refine nx (a_call (gN rfl) rfl rfl rfl rfl rfl (hin)) rfl ?_)
    show AWp _ _ _ _ _ _ _
    by_cases hm : -1 - a2.f ∈ b2.vs
    · rw [if_pos hm] at hr
      cases hr
      refine aC rfl (fun hc => ?_) (fun hc => ?_)
      case refine_2 =>
        have : -1 - a2.f ∉ b2.vs := by simpa using hc
        exact absurd hm this
      refine aS (aR ?_)
      (refine nx (aA (gN rfl) rfl rfl rfl rfl rfl) rfl ?_)
      (refine nx (aA (gN rfl) rfl rfl rfl rfl rfl) rfl ?_)
      show AWp _ _ _ _ _ _ _
      exact aT (And.intro (.inr rfl) rfl)
    · rw [if_neg hm] at hr
      cases hr
      refine aC rfl (fun hc => ?_) (fun hc => aK ?_)
      · have : -1 - a2.f ∈ b2.vs := by simpa using hc
        exact absurd this hm
      show AWp _ _ _ _ _ _ _
      refine aS (aR ?_)
      (refine nx (aM (gN rfl) rfl rfl rfl rfl rfl) rfl ?_)
      (refine nx (aF (gN rfl) rfl rfl rfl rfl rfl rfl rfl rfl rfl) rfl ?_)
      (refine nx (aLb (gN rfl) rfl rfl rfl rfl rfl rfl rfl rfl rfl rfl rfl rfl) rfl ?_)
      (refine nx (a_sub (gN rfl) rfl rfl rfl rfl rfl rfl (by first | omega | (simp only [List.length_map, List.length_append, List.length_cons, List.length_nil] <;> omega) | (simp <;> omega))) rfl ?_)
      (refine nx (aL (gN rfl) rfl rfl rfl rfl rfl rfl rfl rfl rfl rfl rfl rfl) rfl ?_)
      (refine nx (a_call (gN rfl) rfl rfl rfl rfl rfl (refBound_abs w s (-1 - a2.f) b2 (by omega) hso)) rfl ?_)
      (refine nx (aA (gN rfl) rfl rfl rfl rfl rfl) rfl ?_)
      (refine nx (aA (gN rfl) rfl rfl rfl rfl rfl) rfl ?_)
      show AWp _ _ _ _ _ _ _
      exact aT (And.intro (.inr rfl) rfl)
  rw [if_neg fa] at hr
  refine aC rfl (fun hc => ?_) (fun hc => aK ?_)
  · have : a2.f < 0 := by simpa using hc
    exact absurd this fa
  show AWp _ _ _ _ _ _ _
  by_cases hft : a2.f = b2.f
  case neg =>
    have g : decide (a2.f ≠ b2.f) = true := by simpa using hft
    rw [if_pos (.inl hft)] at hr
    cases hr
    refine aS (aS (aR ?_))
    (refine nx (aF (gN rfl) rfl rfl rfl rfl rfl rfl rfl rfl rfl) rfl ?_)
    (refine nx (aLb (gN rfl) rfl rfl rfl rfl rfl rfl rfl rfl rfl rfl rfl rfl) rfl ?_)
    (refine nx (aF (gN rfl) rfl rfl rfl rfl rfl rfl rfl rfl rfl) rfl ?_)
    (refine nx (aLb (gN rfl) rfl rfl rfl rfl rfl rfl rfl rfl rfl rfl rfl rfl) rfl ?_)
    (refine nx (a_neq (gN rfl) rfl rfl rfl rfl rfl rfl) rfl ?_)
    (refine nx (aM (gN rfl) rfl rfl rfl rfl rfl) rfl ?_)
    (refine ⟨_, _, _, a_off (go_off rfl rfl rfl rfl (by first | rfl | assumption | (simp; done) | (simp [*]; done))) rfl rfl rfl, rfl, ?_⟩)
    (refine ⟨_, _, _, a_off (go_off rfl rfl rfl rfl (by first | rfl | assumption | (simp; done) | (simp [*]; done))) rfl rfl rfl, rfl, ?_⟩)
    (refine ⟨_, _, _, a_off (go_off rfl rfl rfl rfl (by first | rfl | assumption | (simp; done) | (simp [*]; done))) rfl rfl rfl, rfl, ?_⟩)
    (refine ⟨_, _, _, a_off (go_off rfl rfl rfl rfl (by first | rfl | assumption | (simp; done) | (simp [*]; done))) rfl rfl rfl, rfl, ?_⟩)
    (refine ⟨_, _, _, a_off (go_off rfl rfl rfl rfl (by first | rfl | assumption | (simp; done) | (simp [*]; done))) rfl rfl rfl, rfl, ?_⟩)
    (refine ⟨_, _, _, a_off (go_off rfl rfl rfl rfl (by first | rfl | assumption | (simp; done) | (simp [*]; done))) rfl rfl rfl, rfl, ?_⟩)
    (refine ⟨_, _, _, a_off (go_off rfl rfl rfl rfl (by first | rfl | assumption | (simp; done) | (simp [*]; done))) rfl rfl rfl, rfl, ?_⟩)
    (refine ⟨_, _, _, aPt (gN rfl) rfl rfl rfl rfl rfl ?hb rfl, rfl, ?_⟩; case hb => (first | rfl | assumption | (simp; done)))
    show AWp _ _ _ _ _ _ _
    refine aC rfl (fun hc => ?_) (fun hc => by cases hc)
    refine aS (aR ?_)
    (refine nx (aA (gN rfl) rfl rfl rfl rfl rfl) rfl ?_)
    (refine nx (aA (gN rfl) rfl rfl rfl rfl rfl) rfl ?_)
    show AWp _ _ _ _ _ _ _
    exact aT (And.intro (.inr rfl) rfl)
  have g : decide (a2.f ≠ b2.f) = false := by simpa using hft
  refine aS (aS (aR ?_))
  (refine nx (aF (gN rfl) rfl rfl rfl rfl rfl rfl rfl rfl rfl) rfl ?_)
  (refine nx (aLb (gN rfl) rfl rfl rfl rfl rfl rfl rfl rfl rfl rfl rfl rfl) rfl ?_)
  (refine nx (aF (gN rfl) rfl rfl rfl rfl rfl rfl rfl rfl rfl) rfl ?_)
  (refine nx (aLb (gN rfl) rfl rfl rfl rfl rfl rfl rfl rfl rfl rfl rfl rfl) rfl ?_)
  (refine nx (a_neq (gN rfl) rfl rfl rfl rfl rfl rfl) rfl ?_)
  (refine nx (aM (gN rfl) rfl rfl rfl rfl rfl) rfl ?_)
  (refine nx (aF (gd_on rfl rfl rfl rfl (by first | rfl | assumption | (simp; done))) rfl rfl rfl rfl rfl rfl rfl rfl rfl) rfl ?_)
  (refine nx (aLb (gd_on rfl rfl rfl rfl (by first | rfl | assumption | (simp; done))) rfl rfl rfl rfl rfl rfl rfl rfl rfl rfl rfl rfl) rfl ?_)
  (refine nx (a_len (gd_on rfl rfl rfl rfl (by first | rfl | assumption | (simp; done))) rfl rfl rfl rfl rfl rfl rfl) rfl ?_)
  (refine nx (aF (gd_on rfl rfl rfl rfl (by first | rfl | assumption | (simp; done))) rfl rfl rfl rfl rfl rfl rfl rfl rfl) rfl ?_)
  (refine nx (aLb (gd_on rfl rfl rfl rfl (by first | rfl | assumption | (simp; done))) rfl rfl rfl rfl rfl rfl rfl rfl rfl rfl rfl rfl) rfl ?_)
  (refine nx (a_len (gd_on rfl rfl rfl rfl (by first | rfl | assumption | (simp; done))) rfl rfl rfl rfl rfl rfl rfl) rfl ?_)
  (refine nx (a_neq (gd_on rfl rfl rfl rfl (by first | rfl | assumption | (simp; done))) rfl rfl rfl rfl rfl rfl) rfl ?_)
  (refine ⟨_, _, _, aPf (gN rfl) rfl rfl rfl rfl rfl ?hb rfl, rfl, ?_⟩; case hb => (first | rfl | assumption | (simp; done)))
  show AWp _ _ _ _ _ _ _
  by_cases hll : a2.l.length = b2.l.length
  case neg =>
    rw [if_pos (.inr hll)] at hr
    cases hr
    refine aC rfl (fun hc => ?_) (fun hc => ?_)
    case refine_2 =>
      have hc := of_decide_eq_false hc
      simp only [List.length_map, ne_eq, Decidable.not_not] at hc
      omega
    refine aS (aR ?_)
    (refine nx (aA (gN rfl) rfl rfl rfl rfl rfl) rfl ?_)
    (refine nx (aA (gN rfl) rfl rfl rfl rfl rfl) rfl ?_)
    show AWp _ _ _ _ _ _ _
    exact aT (And.intro (.inr rfl) rfl)
  rw [if_neg (by omega)] at hr
  refine aC rfl (fun hc => ?_) (fun hc => aK ?_)
  · exfalso
    rw [List.length_map, List.length_map, hll] at hc
    simp at hc
  show AWp _ _ _ _ _ _ _
  have hCL := hCL fa hft hll
  have hoka := (Tm.ok_iff _).1 hra2.2.1
  have hsz1 := Tm.size_all a2.l
  have hsz2 := Tm.size_all b2.l
  refine aS (aS (aR ?_))
  (refine nx (aA (gN rfl) rfl rfl rfl rfl rfl) rfl ?_)
  show AWp _ _ _ _ _ _ _
  refine aB (awp_loop (fun m st => ∃ i s, i + m = a2.l.length ∧ rUs (rU n) ((a2.l.drop i).zip (b2.l.drop i)) s = some r ∧ CndL (rU n) (Cnd n) ((a2.l.drop i).zip (b2.l.drop i)) s ∧ st = [(0, AV.val (.lst (s.map Bd.cv))), (4, .bp 4 0 []), (100004, .bx a2.cw), (5, .bp 5 0 []), (100005, .bx b2.cw), (9, .val (.i ((i : Nat) : Int)))]) (n := a2.l.length) (s' := [(0, AV.val (.lst (s.map Bd.cv))), (4, .bp 4 0 []), (100004, .bx a2.cw), (5, .bp 5 0 []), (100005, .bx b2.cw), (9, .val (.i ((0 : Nat) : Int)))]) (wk_sub ⟨rfl, rfl, rfl, rfl, rfl, rfl, trivial⟩) ⟨0, s, by omega, hr, hCL, rfl⟩ ?_)
  clear hCL hr hso hsl
  rintro m st ⟨i, s, him, hr, hCL, rfl⟩
  refine aS (aS (aR ?_))
  (refine nx (aM (gN rfl) rfl rfl rfl rfl rfl) rfl ?_)
  (refine nx (aF (gN rfl) rfl rfl rfl rfl rfl rfl rfl rfl rfl) rfl ?_)
  (refine nx (aLb (gN rfl) rfl rfl rfl rfl rfl rfl rfl rfl rfl rfl rfl rfl) rfl ?_)
  (refine nx (a_len (gN rfl) rfl rfl rfl rfl rfl rfl rfl) rfl ?_)
  (refine nx (a_lss (gN rfl) rfl rfl rfl rfl rfl rfl) rfl ?_)
  show AWp _ _ _ _ _ _ _
  cases m with
  | zero =>
    have hd : a2.l.drop i = [] := List.drop_eq_nil_of_le (by omega)
    rw [hd, List.zip_nil_left, rUs] at hr
    cases hr
    refine aC rfl (fun hc => ?_) (fun hc => ?_)
    · exfalso
      have : i < a2.l.length := by simpa using hc
      omega
    refine aE ?_
    show AWp _ _ _ _ _ _ _
    refine aS (aR ?_)
    (refine nx (aM (gN rfl) rfl rfl rfl rfl rfl) rfl ?_)
    (refine nx (aA (gN rfl) rfl rfl rfl rfl rfl) rfl ?_)
    (refine nx (aA (gN rfl) rfl rfl rfl rfl rfl) rfl ?_)
    show AWp _ _ _ _ _ _ _
    exact aT (And.intro (.inr rfl) rfl)
  | succ m =>
    have hil : i < a2.l.length := by omega
    obtain ⟨x, hx⟩ : ∃ x, a2.l[i]? = some x := ⟨a2.l[i], List.getElem?_eq_getElem hil⟩
    obtain ⟨y, hy⟩ : ∃ y, b2.l[i]? = some y := ⟨b2.l[i]'(by omega), List.getElem?_eq_getElem (by omega)⟩
    have hx' := Tm.map_at hx
    have hy' := Tm.map_at hy
    have hdx : a2.l.drop i = x :: a2.l.drop (i + 1) := by
      obtain ⟨hk, e⟩ := List.getElem?_eq_some_iff.1 hx
      rw [List.drop_eq_getElem_cons hk, e]
    have hdy : b2.l.drop i = y :: b2.l.drop (i + 1) := by
      obtain ⟨hk, e⟩ := List.getElem?_eq_some_iff.1 hy
      rw [List.drop_eq_getElem_cons hk, e]
    rw [hdx, hdy, List.zip_cons_cons] at hr hCL
    rw [rUs] at hr
    obtain ⟨hC1, hC2⟩ := hCL
    refine aC rfl (fun hc => ?_) (fun hc => ?_)
    case refine_2 =>
      have : ¬ i < a2.l.length := by simpa using hc
      omega
    refine aK ?_
    show AWp _ _ _ _ _ _ _
    cases hg : rU n s x y with
    | none => rw [hg] at hr; cases hr
    | some r1 =>
    rw [hg] at hr
    have hcall := ih w s x y r1 hg hC1
    refine aS (aB (aS (aD (by kernel_rfl) (by kernel_rfl) ?_)))
    (refine nx (aM (gN rfl) rfl rfl rfl rfl rfl) rfl ?_)
    (refine nx (aF (gN rfl) rfl rfl rfl rfl rfl rfl rfl rfl rfl) rfl ?_)
    (refine nx (aLb (gN rfl) rfl rfl rfl rfl rfl rfl rfl rfl rfl rfl rfl rfl) rfl ?_)
    (refine nx (aM (gN rfl) rfl rfl rfl rfl rfl) rfl ?_)
    (refine nx (a_index (j := i) (gN rfl) rfl rfl rfl rfl rfl rfl rfl rfl rfl (hx') rfl (hsz1)) rfl ?_)
    (refine nx (a_load_ad (gN rfl) rfl rfl rfl rfl rfl rfl rfl rfl rfl) rfl ?_)
    (refine nx (aF (gN rfl) rfl rfl rfl rfl rfl rfl rfl rfl rfl) rfl ?_)
    (refine nx (aLb (gN rfl) rfl rfl rfl rfl rfl rfl rfl rfl rfl rfl rfl rfl) rfl ?_)
    (refine nx (aM (gN rfl) rfl rfl rfl rfl rfl) rfl ?_)
    (refine nx (a_index (j := i) (gN rfl) rfl rfl rfl rfl rfl rfl rfl rfl rfl (hy') rfl (hsz2)) rfl ?_)
    (refine nx (a_load_ad (gN rfl) rfl rfl rfl rfl rfl rfl rfl rfl rfl) rfl ?_)
    (refine nx (a_call (gN rfl) rfl rfl rfl rfl rfl (hcall)) rfl ?_)
    (refine nx (aM (gN rfl) rfl rfl rfl rfl rfl) rfl ?_)
    (refine nx (aX (gN rfl) rfl rfl rfl rfl rfl rfl) rfl ?_)
    (refine nx (aX (gN rfl) rfl rfl rfl rfl rfl rfl) rfl ?_)
    (refine nx (aA (gN rfl) rfl rfl rfl rfl rfl) rfl ?_)
    (refine nx (aA (gN rfl) rfl rfl rfl rfl rfl) rfl ?_)
    refine ⟨by kernel_rfl, ?_⟩
    show AWp _ _ _ _ _ _ _
    refine aS (aS (aR ?_))
    (refine nx (aM (gN rfl) rfl rfl rfl rfl rfl) rfl ?_)
    (refine nx (a_not (gN rfl) rfl rfl rfl rfl rfl) rfl ?_)
    show AWp _ _ _ _ _ _ _
    cases r1 with
    | none =>
      simp only at hr
      cases hr
      refine aC rfl (fun hc => ?_) (fun hc => by cases hc)
      refine aS (aR ?_)
      (refine nx (aA (gN rfl) rfl rfl rfl rfl rfl) rfl ?_)
      (refine nx (aA (gN rfl) rfl rfl rfl rfl rfl) rfl ?_)
      show AWp _ _ _ _ _ _ _
      exact aT (And.intro (.inr rfl) rfl)
    | some s1 =>
      simp only at hr
      refine aC rfl (fun hc => by cases hc) (fun hc => aK ?_)
      show AWp _ _ _ _ _ _ _
      refine aR ?_
      (refine nx (aM (gN rfl) rfl rfl rfl rfl rfl) rfl ?_)
      (refine nx (aA (gN rfl) rfl rfl rfl rfl rfl) rfl ?_)
      show AWp _ _ _ _ _ _ _
      refine aR ?_
      (refine nx (aM (gN rfl) rfl rfl rfl rfl rfl) rfl ?_)
      (refine nx (a_add (gN rfl) rfl rfl rfl rfl rfl rfl (by first | omega | (simp only [List.length_map, List.length_append, List.length_cons, List.length_nil] <;> omega) | (simp <;> omega))) rfl ?_)
      (refine nx (aA (gN rfl) rfl rfl rfl rfl rfl) rfl ?_)
      exact ⟨m, [(0, AV.val (.lst (s1.map Bd.cv))), (4, .bp 4 0 []), (100004, .bx a2.cw), (5, .bp 5 0 []), (100005, .bx b2.cw), (9, .val (.i ((i + 1 : Nat) : Int)))], by omega, ⟨i + 1, s1, by omega, hr, hC2 s1 hg, rfl⟩, wk_sub ⟨rfl, rfl, rfl, rfl, rfl, rfl, trivial⟩⟩
-- 
set_option maxHeartbeats 2000000 in
theorem refAll_abs (W : World) (n : Nat) (la lb : List Tm) (r : Option (List Bd)) (hab : la.length = lb.length) (hll : la.length ≤ 1000) (hr : rUs (rU n) (la.zip lb) [] = some r) (hC : CndL (rU n) (Cnd n) (la.zip lb) []) (hl : ∀ s, r = some s → s.length ≤ 1000 ∧ ∀ b ∈ s, b.t.rng) : AFun Try.prog W 19 [.lst (la.map Tm.cv), .lst (lb.map Tm.cv)] (.tup [.lst (((r.map fun s => rnmF s s.length).getD []).map Bd.cv), .b r.isSome]) := by
  have hsz1 := Tm.size_all la
  have hsz2 := Tm.size_all lb
  refine afun_of (rs := [.lst (((r.map fun s => rnmF s s.length).getD []).map Bd.cv), .b r.isSome]) Try.func19 Try.ntmps19 rfl rfl rfl rfl ?_
  intro w U hW
  refine aS (aR ?_)
  (refine nx (aA (gN rfl) rfl rfl rfl rfl rfl) rfl ?_)
  (refine nx (aA (gN rfl) rfl rfl rfl rfl rfl) rfl ?_)
  show AWp _ _ _ _ _ _ _
  refine aS (aR ?_)
  (refine nx (aA (gN rfl) rfl rfl rfl rfl rfl) rfl ?_)
  show AWp _ _ _ _ _ _ _
  refine aS (aS (aR ?_))
  (refine nx (aA (gN rfl) rfl rfl rfl rfl rfl) rfl ?_)
  show AWp _ _ _ _ _ _ _
  refine aB (awp_loop (fun m st => ∃ i s, i + m = la.length ∧ rUs (rU n) ((la.drop i).zip (lb.drop i)) s = some r ∧ CndL (rU n) (Cnd n) ((la.drop i).zip (lb.drop i)) s ∧ st = [(0, AV.val (.lst (la.map Tm.cv))), (1, .val (.lst (lb.map Tm.cv))), (6, .val (.lst (s.map Bd.cv))), (7, .val (.i ((i : Nat) : Int)))]) (n := la.length) (s' := [(0, AV.val (.lst (la.map Tm.cv))), (1, .val (.lst (lb.map Tm.cv))), (6, .val (.lst (([] : List Bd).map Bd.cv))), (7, .val (.i ((0 : Nat) : Int)))]) ((wk_plain 6 rfl).trans (wk_sub ⟨rfl, rfl, rfl, rfl, trivial⟩)) ⟨0, [], by omega, hr, hC, rfl⟩ ?_)
  clear hC hr
  rintro m st ⟨i, s, him, hr, hCL, rfl⟩
  refine aS (aS (aR ?_))
  (refine nx (aM (gN rfl) rfl rfl rfl rfl rfl) rfl ?_)
  (refine nx (aM (gN rfl) rfl rfl rfl rfl rfl) rfl ?_)
  (refine nx (a_len (gN rfl) rfl rfl rfl rfl rfl rfl rfl) rfl ?_)
  (refine nx (a_lss (gN rfl) rfl rfl rfl rfl rfl rfl) rfl ?_)
  show AWp _ _ _ _ _ _ _
  cases m with
  | zero =>
    have hd : la.drop i = [] := List.drop_eq_nil_of_le (by omega)
    rw [hd, List.zip_nil_left, rUs] at hr
    cases hr
    obtain ⟨hl1, hl2⟩ := hl s rfl
    refine aC rfl (fun hc => ?_) (fun hc => ?_)
    · exfalso
      have : i < la.length := by simpa using hc
      omega
    refine aE ?_
    show AWp _ _ _ _ _ _ _
    refine aS (aR ?_)
    (refine nx (aM (gN rfl) rfl rfl rfl rfl rfl) rfl ?_)
    (refine nx (a_call (gN rfl) rfl rfl rfl rfl rfl (ref7Norm_abs w s hl1 hl2)) rfl ?_)
    (refine nx (aA (gN rfl) rfl rfl rfl rfl rfl) rfl ?_)
    (refine nx (aA (gN rfl) rfl rfl rfl rfl rfl) rfl ?_)
    show AWp _ _ _ _ _ _ _
    exact aT (And.intro (.inr rfl) rfl)
  | succ m =>
    have hil : i < la.length := by omega
    obtain ⟨x, hx⟩ : ∃ x, la[i]? = some x := ⟨la[i], List.getElem?_eq_getElem hil⟩
    obtain ⟨y, hy⟩ : ∃ y, lb[i]? = some y := ⟨lb[i]'(by omega), List.getElem?_eq_getElem (by omega)⟩
    have hx' := Tm.map_at hx
    have hy' := Tm.map_at hy
    have hdx : la.drop i = x :: la.drop (i + 1) := by
      obtain ⟨hk, e⟩ := List.getElem?_eq_some_iff.1 hx
      rw [List.drop_eq_getElem_cons hk, e]
    have hdy : lb.drop i = y :: lb.drop (i + 1) := by
      obtain ⟨hk, e⟩ := List.getElem?_eq_some_iff.1 hy
      rw [List.drop_eq_getElem_cons hk, e]
    rw [hdx, hdy, List.zip_cons_cons] at hr hCL
    rw [rUs] at hr
    obtain ⟨hC1, hC2⟩ := hCL
    refine aC rfl (fun hc => ?_) (fun hc => ?_)
    case refine_2 =>
      have : ¬ i < la.length := by simpa using hc
      omega
    refine aK ?_
    show AWp _ _ _ _ _ _ _
    cases hg : rU n s x y with
    | none => rw [hg] at hr; cases hr
    | some r1 =>
    rw [hg] at hr
    have hcall := refUnify_abs n w s x y r1 hg hC1
    refine aS (aB (aS (aD (by kernel_rfl) (by kernel_rfl) ?_)))
    (refine nx (aM (gN rfl) rfl rfl rfl rfl rfl) rfl ?_)
    (refine nx (aM (gN rfl) rfl rfl rfl rfl rfl) rfl ?_)
    (refine nx (aM (gN rfl) rfl rfl rfl rfl rfl) rfl ?_)
    (refine nx (a_index (j := i) (gN rfl) rfl rfl rfl rfl rfl rfl rfl rfl rfl (hx') rfl (hsz1)) rfl ?_)
    (refine nx (a_load_ad (gN rfl) rfl rfl rfl rfl rfl rfl rfl rfl rfl) rfl ?_)
    (refine nx (aM (gN rfl) rfl rfl rfl rfl rfl) rfl ?_)
    (refine nx (aM (gN rfl) rfl rfl rfl rfl rfl) rfl ?_)
    (refine nx (a_index (j := i) (gN rfl) rfl rfl rfl rfl rfl rfl rfl rfl rfl (hy') rfl (hsz2)) rfl ?_)
    (refine nx (a_load_ad (gN rfl) rfl rfl rfl rfl rfl rfl rfl rfl rfl) rfl ?_)
    (refine nx (a_call (gN rfl) rfl rfl rfl rfl rfl (hcall)) rfl ?_)
    (refine nx (aM (gN rfl) rfl rfl rfl rfl rfl) rfl ?_)
    (refine nx (aX (gN rfl) rfl rfl rfl rfl rfl rfl) rfl ?_)
    (refine nx (aX (gN rfl) rfl rfl rfl rfl rfl rfl) rfl ?_)
    (refine nx (aA (gN rfl) rfl rfl rfl rfl rfl) rfl ?_)
    (refine nx (aA (gN rfl) rfl rfl rfl rfl rfl) rfl ?_)
    refine ⟨by kernel_rfl, ?_⟩
    show AWp _ _ _ _ _ _ _
    refine aS (aS (aR ?_))
    (refine nx (aM (gN rfl) rfl rfl rfl rfl rfl) rfl ?_)
    (refine nx (a_not (gN rfl) rfl rfl rfl rfl rfl) rfl ?_)
    show AWp _ _ _ _ _ _ _
    cases r1 with
    | none =>
      simp only at hr
      cases hr
      refine aC rfl (fun hc => ?_) (fun hc => by cases hc)
      refine aS (aR ?_)
      (refine nx (aA (gN rfl) rfl rfl rfl rfl rfl) rfl ?_)
      (refine nx (aA (gN rfl) rfl rfl rfl rfl rfl) rfl ?_)
      show AWp _ _ _ _ _ _ _
      exact aT (And.intro (.inr rfl) rfl)
    | some s1 =>
      simp only at hr
      refine aC rfl (fun hc => by cases hc) (fun hc => aK ?_)
      show AWp _ _ _ _ _ _ _
      refine aR ?_
      (refine nx (aM (gN rfl) rfl rfl rfl rfl rfl) rfl ?_)
      (refine nx (aA (gN rfl) rfl rfl rfl rfl rfl) rfl ?_)
      show AWp _ _ _ _ _ _ _
      refine aR ?_
      (refine nx (aM (gN rfl) rfl rfl rfl rfl rfl) rfl ?_)
      (refine nx (a_add (gN rfl) rfl rfl rfl rfl rfl rfl (by first | omega | (simp only [List.length_map, List.length_append, List.length_cons, List.length_nil] <;> omega) | (simp <;> omega))) rfl ?_)
      (refine nx (aA (gN rfl) rfl rfl rfl rfl rfl) rfl ?_)
      exact ⟨m, [(0, AV.val (.lst (la.map Tm.cv))), (1, .val (.lst (lb.map Tm.cv))), (6, .val (.lst (s1.map Bd.cv))), (7, .val (.i ((i + 1 : Nat) : Int)))], by omega, ⟨i + 1, s1, by omega, hr, hC2 s1 hg, rfl⟩, wk_sub ⟨rfl, rfl, rfl, rfl, trivial⟩⟩
end Go.Proofs.Ytiammidklcjelaa
namespace Go.Proofs.Ytiammidklcjelaa
open Go.RowKit
set_option linter.unusedVariables false
set_option linter.unusedSimpArgs false
def bdsRo (s : List Bd) : Prop := ∀ x ∈ s, x.t.rng ∧ x.t.ok
theorem bnd_ro {s : List Bd} {x : Int} {t : Tm} (h : bdsRo s) (ht : t.rng ∧ t.ok) : bdsRo (bndS s x t) := fun y hy => by
  have h1 : bdsRo [⟨x, t⟩] := fun b hb => by rw [List.mem_singleton] at hb; rw [hb]; exact ht
  rcases List.mem_append.1 hy with hy | hy
  · obtain ⟨c, hc, rfl⟩ := List.mem_map.1 hy
    exact ⟨appR_rng (h c hc).1 fun b hb => (h1 b hb).1, appR_ok (h c hc).2 fun b hb => (h1 b hb).2⟩
  · exact h1 y hy
theorem frn_le {V : List Int} {K : Nat} {s s' : List Bd} (h : s.length + frN V s ≤ K) (hl : s'.length = s.length + 1) (hd : s' = s ∨ frN V s' < frN V s) : s'.length + frN V s' ≤ K := by
  rcases hd with rfl | hd
  · omega
  · omega
section
variable {V : List Int} {S : List Tm} {K : Nat}

theorem rUs_mid (hV : ∀ v ∈ V, 0 ≤ v) {n : Nat} {E : List (Tm × Tm)} (ih : ∀ (s : List Bd) (a b : Tm) (E : List (Tm × Tm)), MidU V S K s E → bdsRo s → Way V S s a → Way V S s b → (a.rng ∧ a.ok) → (b.rng ∧ b.ok) → Cnd n s a b ∧ ∀ s', rU n s a b = some (some s') → MidU V S K s' (E ++ [(a, b)]) ∧ bdsRo s') : ∀ (ps : List (Tm × Tm)) (s : List Bd) (F : List (Tm × Tm)), MidU V S K s (E ++ F) → bdsRo s → (∀ p ∈ ps, (∀ (s1 : List Bd) F1, Mgu (imgB s1) (E ++ F1) → Way V S s1 p.1 ∧ Way V S s1 p.2) ∧ (p.1.rng ∧ p.1.ok) ∧ (p.2.rng ∧ p.2.ok)) → CndL (rU n) (Cnd n) ps s ∧ ∀ s', rUs (rU n) ps s = some (some s') → MidU V S K s' (E ++ F ++ ps) ∧ bdsRo s'
  | [], s, F, hm, hr, _ => ⟨trivial, fun s' e => by cases e; rw [List.append_nil]; exact ⟨hm, hr⟩⟩
  | p :: ps, s, F, hm, hr, hp => by
    obtain ⟨h1, h2, h3⟩ := hp p (by simp)
    obtain ⟨w1, w2⟩ := h1 s F hm.mgu
    obtain ⟨c1, c2⟩ := ih s p.1 p.2 (E ++ F) hm hr w1 w2 h2 h3
    have next : ∀ s1, rU n s p.1 p.2 = some (some s1) → CndL (rU n) (Cnd n) ps s1 ∧ ∀ s', rUs (rU n) ps s1 = some (some s') → MidU V S K s' (E ++ F ++ p :: ps) ∧ bdsRo s' := fun s1 e => by
      obtain ⟨m1, m2⟩ := c2 s1 e
      have e3 : E ++ F ++ [(p.1, p.2)] = E ++ (F ++ [p]) := by rw [List.append_assoc]
      rw [e3] at m1
      have := rUs_mid hV ih ps s1 (F ++ [p]) m1 m2 fun q hq => hp q (List.mem_cons_of_mem _ hq)
      rw [show E ++ (F ++ [p]) ++ ps = E ++ F ++ p :: ps by simp] at this
      exact this
    refine ⟨⟨c1, fun s1 e => (next s1 e).1⟩, fun s' e => ?_⟩
    rw [rUs] at e
    cases hg : rU n s p.1 p.2 with
    | none => rw [hg] at e; cases e
    | some q =>
      rw [hg] at e
      cases q with
      | none => cases e
      | some s1 => exact (next s1 hg).2 s' e
theorem rU_mid (hV : ∀ v ∈ V, 0 ≤ v) (hc : Shut S) (hK : K ≤ 100000) (hE : arA S ≤ 60) : ∀ (n : Nat) (s : List Bd) (a b : Tm) (E : List (Tm × Tm)), MidU V S K s E → bdsRo s → Way V S s a → Way V S s b → (a.rng ∧ a.ok) → (b.rng ∧ b.ok) → Cnd n s a b ∧ ∀ s', rU n s a b = some (some s') → MidU V S K s' (E ++ [(a, b)]) ∧ bdsRo s' := by
  intro n
  induction n with
  | zero => intro s a b E _ _ _ _ _ _; exact ⟨trivial, fun s' e => by cases e⟩
  | succ n ih =>
    intro s a b E hm hr wa wb ha hb
    have ea : appR s a = repT (imgB s) a := appR_bare hm.bare a
    have eb : appR s b = repT (imgB s) b := appR_bare hm.bare b
    have hbare : ∀ v, 0 ≤ v → (imgB s v).strip = imgB s v := fun v _ => bare_img hm.bare v
    have za : (appR s a).size ≤ 90000000000 := by rw [ea]; exact big_60 hE (hits_big hc hm.orig hbare wa.hits)
    have zb : (appR s b).size ≤ 90000000000 := by rw [eb]; exact big_60 hE (hits_big hc hm.orig hbare wb.hits)
    have ra : (appR s a).rng ∧ (appR s a).ok := ⟨appR_rng ha.1 fun x hx => (hr x hx).1, appR_ok ha.2 fun x hx => (hr x hx).2⟩
    have rb : (appR s b).rng ∧ (appR s b).ok := ⟨appR_rng hb.1 fun x hx => (hr x hx).1, appR_ok hb.2 fun x hx => (hr x hx).2⟩
    -- the parts of what a term became
    have part : ∀ c : Tm, Way V S s c → (appR s c).rng ∧ (appR s c).ok → ¬ (appR s c).f < 0 → ∀ p ∈ (appR s c).l, (∀ (s1 : List Bd) F1, Mgu (imgB s1) (E ++ F1) → Way V S s1 p) ∧ p.rng ∧ p.ok := by
      intro c wc hcr hcf p hp
      have ec : appR s c = repT (imgB s) c := appR_bare hm.bare c
      refine ⟨fun s1 F1 h1 => ?_, ((Tm.rng_iff _).1 hcr.1).2 p hp, ((Tm.ok_iff _).1 hcr.2).2 p hp⟩
      have hu : uni (imgB s1) E := (uni_app.1 h1.uni).1
      refine ⟨fun u hu => rep_inV hm.inV wc.vs u ?_, ?_⟩
      · rw [← ec, Tm.vs_sym hcf]; exact List.mem_flatMap.2 ⟨p, hp, hu⟩
      · rw [ec] at hcf hp
        obtain ⟨q, hq, hq0, e⟩ := wc.hits.sym hm.orig hbare hcf
        rw [e, repT_sym hq0] at hp
        obtain ⟨q2, hq2, rfl⟩ := List.mem_map.1 hp
        exact ⟨q2, hc q hq q2 (by rw [Tm.ps_of_sym (by omega)]; exact hq2), hm.mgu.rep hu q2⟩
    have list : ∀ c d : Tm, Way V S s c → Way V S s d → (appR s c).rng ∧ (appR s c).ok → (appR s d).rng ∧ (appR s d).ok → ¬ (appR s c).f < 0 → (appR s c).f = (appR s d).f → CndL (rU n) (Cnd n) ((appR s c).l.zip (appR s d).l) s ∧ ∀ s', rUs (rU n) ((appR s c).l.zip (appR s d).l) s = some (some s') → MidU V S K s' (E ++ [] ++ (appR s c).l.zip (appR s d).l) ∧ bdsRo s' := by
      intro c d wc wd hcr hdr hcf hfe
      refine rUs_mid hV ih _ s [] (by rw [List.append_nil]; exact hm) hr fun p hp => ?_
      obtain ⟨p1, p2⟩ := List.of_mem_zip (a := p.1) (b := p.2) hp
      obtain ⟨a1, a2⟩ := part c wc hcr hcf _ p1
      obtain ⟨b1, b2⟩ := part d wd hdr (by rw [← hfe]; exact hcf) _ p2
      exact ⟨fun s1 F1 h1 => ⟨a1 s1 F1 h1, b1 s1 F1 h1⟩, a2, b2⟩
    refine ⟨⟨⟨by have := hm.len; omega, hr⟩, ⟨ha.1, ha.2, hb.1, hb.2⟩, ⟨za, zb⟩, ?_⟩, fun s' e => ?_⟩
    · intro a2 b2 e1 e2 hf hff hll
      split at e1
      · rename_i hs
        rw [if_pos hs] at e2
        subst e1 e2
        exact (list b a wb wa rb ra hf hff).1
      · rename_i hs
        rw [if_neg hs] at e2
        subst e1 e2
        exact (list a b wa wb ra rb hf hff).1
    · have hsp := rU_spec hV e hm.mgu hm.bare hm.inV wa.vs wb.vs
      obtain ⟨q1, q2, q3, q4⟩ := hsp
      have go : ∀ c d : Tm, Way V S s c → Way V S s d → (appR s c).rng ∧ (appR s c).ok → (appR s d).rng ∧ (appR s d).ok → rUgo (rU n) s (appR s c) (appR s d) = some (some s') → (Orig S (imgB s') ∧ s'.length + frN V s' ≤ K ∧ ∀ b ∈ s', b.v ∈ V) ∧ bdsRo s' := by
        intro c d wc wd hcr hdr e
        by_cases hf : (appR s c).f < 0
        · obtain ⟨o1, o2, o3⟩ := rUgo_var hV hm (appR_bare hm.bare c) (appR_bare hm.bare d) wc wd hf e
          refine ⟨⟨o1, frn_le hm.len o2 q4, o3⟩, ?_⟩
          unfold rUgo at e
          rw [if_pos hf] at e
          split at e
          · cases e
          · cases e; exact bnd_ro hr hdr
        · unfold rUgo at e
          rw [if_neg hf] at e
          split at e
          · cases e
          · rename_i hne
            obtain ⟨m1, m2⟩ := (list c d wc wd hcr hdr hf (Decidable.byContradiction fun h => hne (.inl h))).2 s' e
            exact ⟨⟨m1.orig, m1.len, m1.num⟩, m2⟩
      rw [rU] at e
      split at e
      · cases e; exact ⟨⟨q1, q2, q3, hm.orig, hm.len, hm.num⟩, hr⟩
      · split at e
        · obtain ⟨⟨o1, o2, o4⟩, o3⟩ := go b a wb wa rb ra e
          exact ⟨⟨q1, q2, q3, o1, o2, o4⟩, o3⟩
        · obtain ⟨⟨o1, o2, o4⟩, o3⟩ := go a b wa wb ra rb e
          exact ⟨⟨q1, q2, q3, o1, o2, o4⟩, o3⟩
end
def Tiny2 (l : List (Tm × Tm)) : Prop := ∀ p ∈ l, ((p.1.rng ∧ p.1.ok) ∧ p.1.size ≤ 16) ∧ ((p.2.rng ∧ p.2.ok) ∧ p.2.size ≤ 16)
def varsP (l : List (Tm × Tm)) : List Int := l.flatMap fun p => p.1.vs ++ p.2.vs
theorem filt_len {V : List Int} (p : Int → Bool) : (V.filter p).length ≤ V.length := List.length_filter_le _ _
theorem vs_lenU (t : Tm) : t.vs.length ≤ t.size := by
  unfold Tm.vs Tm.size vsL
  rw [List.length_map]
  exact List.length_filter_le _ _
theorem varsP_len : ∀ l : List (Tm × Tm), Tiny2 l → (varsP l).length ≤ 32 * l.length
  | [], _ => Nat.le_refl _
  | p :: l, h => by
    have h1 := h p (by simp)
    have h2 := varsP_len l fun q hq => h q (List.mem_cons_of_mem _ hq)
    have e : varsP (p :: l) = (p.1.vs ++ p.2.vs) ++ varsP l := List.flatMap_cons
    have h3 := vs_lenU p.1
    have h4 := vs_lenU p.2
    rw [e, List.length_append, List.length_append, List.length_cons]
    omega
theorem all_mid (l : List (Tm × Tm)) (hl : l.length ≤ 2) (ht : Tiny2 l) : ∃ n r, rUs (rU n) l [] = some r ∧ CndL (rU n) (Cnd n) l [] ∧ (r = none → ∀ τ, ¬ uni τ l) ∧ ∀ s, r = some s → Mgu (imgB s) l ∧ bareB s ∧ inV (varsP l) s ∧ bdsRo s ∧ (∀ b ∈ s, 0 ≤ b.v) ∧ s.length ≤ 64 ∧ (∀ b ∈ s, b.v ∈ varsP l) ∧ (∀ t, (∃ q ∈ subsP l, t = q) → (repT (imgB s) t).size ≤ 90000000000) ∧ ∀ v, 0 ≤ v → imgB s v = varT v ∨ ((imgB s v).rng ∧ (imgB s v).size ≤ 90000000000) := by
  have hV : ∀ v ∈ varsP l, 0 ≤ v := fun v hv => by
    obtain ⟨p, _, hv⟩ := List.mem_flatMap.1 hv
    rcases List.mem_append.1 hv with hv | hv <;> exact vs_nonneg _ v hv
  have hsub : ∀ p ∈ l, (∀ u ∈ p.1.vs, u ∈ varsP l) ∧ ∀ u ∈ p.2.vs, u ∈ varsP l := fun p hp => ⟨fun u hu => List.mem_flatMap.2 ⟨p, hp, List.mem_append_left _ hu⟩, fun u hu => List.mem_flatMap.2 ⟨p, hp, List.mem_append_right _ hu⟩⟩
  have h0 : Mgu (imgB []) [] := Mgu.nil
  obtain ⟨n, r, e, g1, g2⟩ := allR_spec hV l [] [] h0 (fun b hb => by cases hb) (fun b hb => by cases hb) hsub
  rw [List.nil_append] at g1 g2
  have hE : arA (subsP l) ≤ 60 := by
    have := subs_ar l fun p hp => ⟨(ht p hp).1.2, (ht p hp).2.2⟩
    omega
  have hvl := varsP_len l ht
  have hmid0 : MidU (varsP l) (subsP l) 64 [] ([] ++ []) := ⟨h0, (fun b hb => by cases hb), (fun b hb => by cases hb), (fun v hv hf => by exfalso; apply hf; show (varT v).f < 0; rw [varT_f]; omega), by
    have : frN (varsP l) [] ≤ (varsP l).length := filt_len _
    show 0 + _ ≤ 64
    omega, fun b hb => by cases hb⟩
  obtain ⟨c1, c2⟩ := rUs_mid (V := varsP l) (S := subsP l) (K := 64) (E := []) hV (rU_mid hV (subs_shut l) (by decide) hE n) l [] [] hmid0 (fun b hb => by cases hb) fun p hp => by
    obtain ⟨s1, s2⟩ := subs_has hp
    exact ⟨fun s1' F1 h1 => ⟨⟨(hsub p hp).1, p.1, s1, rfl⟩, ⟨(hsub p hp).2, p.2, s2, rfl⟩⟩, (ht p hp).1.1, (ht p hp).2.1⟩
  refine ⟨n, r, e, c1, g1, fun s hs => ?_⟩
  obtain ⟨k1, k2, k3⟩ := g2 s hs
  rw [hs] at e
  obtain ⟨m1, m2⟩ := c2 s e
  have hbare : ∀ v, 0 ≤ v → (imgB s v).strip = imgB s v := fun v _ => bare_img k2 v
  have hbig : ∀ q ∈ subsP l, (repT (imgB s) q).size ≤ 90000000000 := fun q hq => big_60 hE (hits_big (subs_shut l) m1.orig hbare ⟨q, hq, rfl⟩)
  refine ⟨k1, k2, k3, m2, rUs_pos (rU_pos n) l [] s e (fun b hb => by cases hb), by have := m1.len; omega, m1.num, fun t ⟨q, hq, e⟩ => by rw [e]; exact hbig q hq, fun v hv => ?_⟩
  by_cases hf : (imgB s v).f < 0
  · unfold imgB at hf ⊢
    cases hfd : findB s v with
    | none => exact .inl rfl
    | some t =>
      right
      rw [hfd] at hf
      obtain ⟨b, hbm, e1, _⟩ := findB_mem hfd
      refine ⟨by show t.rng; rw [← e1]; exact (m2 b hbm).1, ?_⟩
      show t.size ≤ _
      rw [Tm.size_var (show t.f < 0 from hf)]
      decide
  · right
    obtain ⟨q, hq, hq0, e1⟩ := m1.orig v hv hf
    refine ⟨?_, by rw [← e1]; exact hbig q hq⟩
    unfold imgB at hf ⊢
    cases hfd : findB s v with
    | none => rw [hfd] at hf; exact absurd (show (varT v).f < 0 by rw [varT_f]; omega) hf
    | some t =>
      obtain ⟨b, hbm, e2, _⟩ := findB_mem hfd
      show t.rng
      rw [← e2]; exact (m2 b hbm).1
end Go.Proofs.Ytiammidklcjelaa
namespace Go.Proofs.Ytiammidklcjelaa
open Go.RowKit
set_option linter.unusedVariables false
set_option linter.unusedSimpArgs false
set_option maxRecDepth 100000
def alikeB (p q : List Bd) (l : List Int) : Bool := l.all fun v => sameT (imgB p v) (imgB q v)
theorem rep_cong0 {σ σ' : Int → Tm} (h : ∀ v, 0 ≤ v → σ' v = σ v) (t : Tm) : repT σ' t = repT σ t := rep_congr fun v hv => h v (vs_nonneg _ v hv)
theorem Mgu.congr {σ σ' : Int → Tm} {E : List (Tm × Tm)} (hm : Mgu σ E) (h : ∀ v, 0 ≤ v → σ' v = σ v) : Mgu σ' E :=
  ⟨fun p hp => by rw [rep_cong0 h, rep_cong0 h]; exact hm.uni p hp, fun v hv => by rw [h v hv]; exact hm.bare v hv, fun v hv u hu => by
    rw [h v hv] at hu
    rw [h u (vs_nonneg _ u hu)]; exact hm.idem v hv u hu, fun τ ht v hv => by rw [h v hv]; exact hm.most τ ht v hv, fun v hv hf => by
    rw [h v hv] at hf ⊢; exact hm.low v hv hf⟩
theorem img_normB {s : List Bd} (hb : bareB s) {v : Int} (hv : 0 ≤ v) : imgB (normF s) v = imgB s v := by
  have h1 := findN s hv
  have h2 : imgB (normF s) v = (findB (normF s) v).getD (varT v) := rfl
  rw [h2, h1]
  split
  · rename_i hi
    have hi : (decide ((imgB s v).f < 0) && decide (-1 - (imgB s v).f = v)) = true := hi
    rw [Bool.and_eq_true, decide_eq_true_eq, decide_eq_true_eq] at hi
    show varT v = _
    rw [bare_var (bare_img hb v) hi.1, hi.2]
  · exact bare_img hb v
structure Tells8 (l : List (Tm × Tm)) (r : List Bd × Bool) : Prop where
  told : ToldU l r
  yes : r.2 = true → Mgu (imgB r.1) l
  no : r.2 = false → r.1 = [] ∧ ∀ τ, ¬ uni τ l
  len : r.1.length ≤ 64
  ok : ∀ b ∈ r.1, (b.t.rng ∧ b.t.size ≤ 90000000000) ∧ b.t.ok
  bare : bareB r.1
  inV : ∀ b ∈ r.1, b.v ∈ varsP l ∧ ∀ u ∈ b.t.vs, u ∈ varsP l
  srt : r.1.Pairwise (fun x y => x.v < y.v)
  free : ∀ t u, u ∈ (repT (imgB r.1) t).vs → findB r.1 u = none
  big : ∀ q ∈ subsP l, (repT (imgB r.1) q).size ≤ 90000000000
theorem size_subs {l : List (Tm × Tm)} (ht : Tiny2 l) : ∀ q ∈ subsP l, q.size ≤ 16 := fun q hq => by
  have key : ∀ t : Tm, ∀ q ∈ t.flat, q.size ≤ t.size := by
    intro t
    induction t using Tm.indp with
    | h t ih =>
      intro q hq
      rw [Tm.flat_eq] at hq
      rcases List.mem_cons.1 hq with rfl | hq
      · exact Nat.le_refl _
      · obtain ⟨p, hp, hq⟩ := List.mem_flatMap.1 hq
        have := ih p hp q hq
        have := Tm.size_part hp
        omega
  obtain ⟨p, hp, hq⟩ := List.mem_flatMap.1 hq
  rcases List.mem_append.1 hq with hq | hq
  · exact Nat.le_trans (key _ q hq) (ht p hp).1.2
  · exact Nat.le_trans (key _ q hq) (ht p hp).2.2
theorem told_of {l : List (Tm × Tm)} (hl : l.length ≤ 2) (ht : Tiny2 l) : ∃ n r, rUs (rU n) l [] = some r ∧ CndL (rU n) (Cnd n) l [] ∧ (∀ s, r = some s → s.length ≤ 1000 ∧ ∀ b ∈ s, b.t.rng ∧ b.t.ok) ∧ Tells8 l ((r.map normF).getD [], r.isSome) := by
  obtain ⟨n, r, e, hC, h1, h2⟩ := all_mid l hl ht
  refine ⟨n, r, e, hC, fun s hs => ?_, ?_⟩
  · obtain ⟨_, _, _, m4, _, m6, _⟩ := h2 s hs
    exact ⟨by omega, m4⟩
  cases r with
  | none =>
    have hn := h1 rfl
    have hid : ∀ t : Tm, repT (imgB []) t = t.strip := fun t => rep_id t
    exact ⟨.inl ⟨rfl, rfl, hn⟩, (fun h => by cases h), fun _ => ⟨rfl, hn⟩, Nat.zero_le _, (fun b hb => by cases hb), (fun b hb => by cases hb), (fun b hb => by cases hb), List.Pairwise.nil, fun t u hu => rfl, fun q hq => by
      show (repT (imgB []) q).size ≤ _
      rw [hid, Tm.strip_size]
      have := size_subs ht q hq
      omega⟩
  | some s =>
    obtain ⟨m1, m2, m3, m4, m5, m6, m7, m8, m9⟩ := h2 s rfl
    have hi : ∀ v, 0 ≤ v → imgB (normF s) v = imgB s v := fun v hv => img_normB m2 hv
    have hbs : ∀ b ∈ normF s, ∃ c ∈ s, b.v = c.v ∧ b.t = c.t := fun b hb => by
      unfold normF at hb
      obtain ⟨c, hc, rfl⟩ := List.mem_map.1 hb
      have hcs := firstsF_mem (List.mem_filter.1 hc).1
      exact ⟨c, hcs, rfl, m2 c hcs⟩
    have hin : ∀ b ∈ normF s, findB (normF s) b.v = some b.t := fun b hb => by
      have key : ∀ L : List Bd, L.Pairwise (fun x y => x.v < y.v) → ∀ b ∈ L, findB L b.v = some b.t := fun L => by
        induction L with
        | nil => intro _ b hb; cases hb
        | cons a L ih =>
          intro hp b hb
          obtain ⟨p1, p2⟩ := List.pairwise_cons.1 hp
          rw [findB]
          rcases List.mem_cons.1 hb with rfl | hb
          · rw [if_pos rfl]
          · rw [if_neg (by have := p1 b hb; omega)]
            exact ih p2 b hb
      exact key _ (normF_srt s) b hb
    refine ⟨.inr ⟨rfl, s, m1, m5, m9, rfl⟩, fun _ => m1.congr hi, (fun h => by cases h), Nat.le_trans (normF_len s) m6, fun b hb => ?_, fun b hb => ?_, fun b hb => ?_, normF_srt s, fun t u hu => ?_, fun q hq => ?_⟩
    · obtain ⟨c, hc, e1, e2⟩ := hbs b hb
      have h0 : 0 ≤ b.v := by rw [e1]; exact m5 c hc
      have hf := hin b hb
      have him : imgB s b.v = b.t := by rw [← hi _ h0]; unfold imgB; rw [hf]; rfl
      refine ⟨⟨by rw [e2]; exact (m4 c hc).1, ?_⟩, by rw [e2]; exact (m4 c hc).2⟩
      rcases m9 b.v h0 with h | h
      · rw [← him, h, Tm.size_var (by rw [varT_f]; omega)]; decide
      · rw [← him]; exact h.2
    · obtain ⟨c, hc, _, e2⟩ := hbs b hb
      show b.t.strip = b.t
      rw [e2]; exact m2 c hc
    · obtain ⟨c, hc, e1, e2⟩ := hbs b hb
      rw [e1, e2]
      exact ⟨m7 c hc, m3 c hc⟩
    · have hu : u ∈ (repT (imgB (normF s)) t).vs := hu
      rw [rep_cong0 hi] at hu
      exact left_free m1 hu
    · show (repT (imgB (normF s)) q).size ≤ _
      rw [rep_cong0 hi]
      exact m8 q ⟨q, hq, rfl⟩
theorem Tells8.bdsOk {l : List (Tm × Tm)} {r : List Bd × Bool} (h : Tells8 l r) : bdsOk r.1 := fun b hb => (h.ok b hb).1
def tinyB (l : List Tm) : Bool := l.all fun t => decide (0 ≤ smallT t 16 8)
theorem tiny_facts {t : Tm} (h : 0 ≤ smallT t 16 8) : t.sm ∧ (t.rng ∧ t.ok) ∧ t.size ≤ 16 := by
  have hsm := small_sm t _ _ h
  have hwt : t.wt ≤ 16 := by have := (small_bounds t 16 8 (by decide)).2.2 h; omega
  exact ⟨hsm, ⟨Tm.sm_rng hsm, Tm.wt_ok (t := t) (by omega)⟩, Nat.le_trans t.size_wt hwt⟩
-- 
set_option maxHeartbeats 1000000 in
theorem tiny_abs (W : World) (l : List Tm) (hl : l.length ≤ 1000) (hr : ∀ t ∈ l, t.rng) : AFun Try.prog W 16 [.lst (l.map Tm.cv)] (.val (.b (tinyB l))) := by
  have hsz := Tm.size_all l
  refine afun_of (rs := [.b (tinyB l)]) Try.func16 Try.ntmps16 rfl rfl rfl rfl ?_
  intro w U hW
  refine aS (aR ?_)
  (refine nx (aA (gN rfl) rfl rfl rfl rfl rfl) rfl ?_)
  show AWp _ _ _ _ _ _ _
  refine aS (aS (aR ?_))
  (refine nx (aA (gN rfl) rfl rfl rfl rfl rfl) rfl ?_)
  show AWp _ _ _ _ _ _ _
  refine aB (awp_countI l.length (fun k => ∀ t ∈ l.take k, 0 ≤ smallT t 16 8) (fun k => [(0, .val (.lst (l.map Tm.cv))), (3, .val (.i k))]) (wk_sub ⟨rfl, rfl, trivial⟩) (by simp) ?_)
  intro k hk hI
  refine aS (aS (aR ?_))
  (refine nx (aM (gN rfl) rfl rfl rfl rfl rfl) rfl ?_)
  (refine nx (aM (gN rfl) rfl rfl rfl rfl rfl) rfl ?_)
  (refine nx (a_len (gN rfl) rfl rfl rfl rfl rfl rfl rfl) rfl ?_)
  (refine nx (a_lss (gN rfl) rfl rfl rfl rfl rfl rfl) rfl ?_)
  show AWp _ _ _ _ _ _ _
  refine aC rfl (fun hlt => ?_) (fun hlt => ?_)
  · have hkl : k < l.length := by simpa using hlt
    obtain ⟨t, ht⟩ : ∃ t, l[k]? = some t := ⟨l[k], List.getElem?_eq_getElem hkl⟩
    have ht' := Tm.map_at ht
    have hm := List.mem_of_getElem? ht
    have hs := small_abs w t 16 8 (hr t hm) (by decide) (by decide) (by decide) (by decide)
    refine aK ?_
    show AWp _ _ _ _ _ _ _
    refine aS (aB (aS (aR ?_)))
    (refine nx (aM (gN rfl) rfl rfl rfl rfl rfl) rfl ?_)
    (refine nx (aM (gN rfl) rfl rfl rfl rfl rfl) rfl ?_)
    (refine nx (a_index (j := k) (gN rfl) rfl rfl rfl rfl rfl rfl rfl rfl rfl (ht') rfl (hsz)) rfl ?_)
    (refine nx (a_load_ad (gN rfl) rfl rfl rfl rfl rfl rfl rfl rfl rfl) rfl ?_)
    (refine nx (a_call (gN rfl) rfl rfl rfl rfl rfl (hs)) rfl ?_)
    (refine nx (a_lss (gN rfl) rfl rfl rfl rfl rfl rfl) rfl ?_)
    show AWp _ _ _ _ _ _ _
    refine aC rfl (fun hc => ?_) (fun hc => ?_)
    · have hc : smallT t 16 8 < 0 := by simpa using hc
      have hno : tinyB l = false := by
        rw [← Bool.not_eq_true]
        intro h
        have := of_decide_eq_true (List.all_eq_true.1 h t hm)
        omega
      rw [hno]
      refine aS (aR ?_)
      (refine nx (aA (gN rfl) rfl rfl rfl rfl rfl) rfl ?_)
      show AWp _ _ _ _ _ _ _
      exact aT (And.intro (.inr rfl) rfl)
    · have hc : ¬ smallT t 16 8 < 0 := by simpa using hc
      refine aK ?_
      show AWp _ _ _ _ _ _ _
      refine aR ?_
      (refine nx (aM (gN rfl) rfl rfl rfl rfl rfl) rfl ?_)
      (refine nx (a_add (gN rfl) rfl rfl rfl rfl rfl rfl (by first | omega | (simp only [List.length_map, List.length_append, List.length_cons, List.length_nil] <;> omega) | (simp <;> omega))) rfl ?_)
      (refine nx (aA (gN rfl) rfl rfl rfl rfl rfl) rfl ?_)
      refine ⟨hkl, ?_, wk_sub ⟨rfl, rfl, trivial⟩⟩
      intro s hs
      rw [List.take_add_one, ht, List.mem_append] at hs
      rcases hs with hs | hs
      · exact hI s hs
      · simp at hs
        rw [hs]; omega
  · have hkl : k = l.length := by
      have : ¬ k < l.length := by simpa using hlt
      omega
    subst hkl
    rw [List.take_length] at hI
    have hyes : tinyB l = true := List.all_eq_true.2 fun t ht => decide_eq_true (hI t ht)
    rw [hyes]
    refine aE ?_
    show AWp _ _ _ _ _ _ _
    refine aS (aR ?_)
    (refine nx (aA (gN rfl) rfl rfl rfl rfl rfl) rfl ?_)
    show AWp _ _ _ _ _ _ _
    exact aT (And.intro (.inr rfl) rfl)
theorem tiny4_abs (W : World) {a b c d : Tm} (ha : a.rng) (hb : b.rng) (hc : c.rng) (hd : d.rng) : AFun Try.prog W 16 [.lst [a.cw, b.cw, c.cw, d.cw]] (.val (.b (tinyB [a, b, c, d]))) := by
  have := tiny_abs W [a, b, c, d] (by simp) (fun t ht => by
    simp only [List.mem_cons, List.not_mem_nil, or_false] at ht
    rcases ht with rfl | rfl | rfl | rfl <;> assumption)
  rw [List.map_cons, List.map_cons, List.map_cons, List.map_cons, List.map_nil, Tm.cv_eq, Tm.cv_eq, Tm.cv_eq, Tm.cv_eq] at this
  exact this
def exX : Tm := ⟨4, [⟨-1, []⟩, ⟨1, []⟩]⟩
def exY : Tm := ⟨4, [⟨3, [⟨-2, []⟩]⟩, ⟨-2, []⟩]⟩
def exU : List Bd := [⟨0, ⟨3, [⟨1, []⟩]⟩⟩, ⟨1, ⟨1, []⟩⟩]
theorem ex_img (v : Int) : imgB exU v = if v = 0 then ⟨3, [⟨1, []⟩]⟩ else if v = 1 then ⟨1, []⟩ else varT v := by
  unfold imgB exU
  rw [findB, findB, findB]
  by_cases h0 : v = 0
  · rw [if_pos h0.symm, if_pos h0]; rfl
  · rw [if_neg (Ne.symm h0), if_neg h0]
    by_cases h1 : v = 1
    · rw [if_pos h1.symm, if_pos h1]; rfl
    · rw [if_neg (Ne.symm h1), if_neg h1]; rfl
theorem ex_uni (τ : Int → Tm) : uni τ [(exX, exY)] ↔ (τ 0).strip = ⟨3, [⟨1, []⟩]⟩ ∧ (τ 1).strip = ⟨1, []⟩ := by
  rw [uni_one]
  have e1 : repT τ exX = ⟨4, [(τ 0).strip, ⟨1, []⟩]⟩ := by simp [exX, repT]
  have e2 : repT τ exY = ⟨4, [⟨3, [(τ 1).strip]⟩, (τ 1).strip]⟩ := by simp [exY, repT]
  rw [e1, e2]
  simp only [Tm.mk.injEq, List.cons.injEq, true_and, and_true]
  constructor
  · rintro ⟨h1, h2⟩
    rw [h1, ← h2]
    exact ⟨rfl, rfl⟩
  · rintro ⟨h1, h2⟩
    rw [h1, h2]
    exact ⟨rfl, rfl⟩
theorem ex_strip : (⟨3, [⟨1, []⟩]⟩ : Tm).strip = ⟨3, [⟨1, []⟩]⟩ ∧ (⟨1, []⟩ : Tm).strip = ⟨1, []⟩ := by
  constructor <;> simp [Tm.strip]
theorem ex_vs : (⟨3, [⟨1, []⟩]⟩ : Tm).vs = [] ∧ (⟨1, []⟩ : Tm).vs = [] := by
  have h : (⟨1, []⟩ : Tm).vs = [] := by rw [Tm.vs_sym (by decide)]; rfl
  refine ⟨?_, h⟩
  rw [Tm.vs_sym (by decide)]
  simp [h]
theorem ex_mgu : Mgu (imgB exU) [(exX, exY)] := by
  refine ⟨?_, fun v hv => ?_, fun v hv u hu => ?_, fun τ ht v hv => ?_, fun v hv hf => ?_⟩
  · rw [ex_uni, ex_img, ex_img, if_pos rfl, if_neg (by decide), if_pos rfl]
    exact ex_strip
  · rw [ex_img]
    split
    · exact ex_strip.1
    · split
      · exact ex_strip.2
      · exact varT_strip v
  · rw [ex_img] at hu
    split at hu
    · rw [ex_vs.1] at hu; cases hu
    · split at hu
      · rw [ex_vs.2] at hu; cases hu
      · rename_i h0 h1
        rw [Tm.vs_var (by rw [varT_f]; omega), varT_f, List.mem_singleton] at hu
        have : u = v := by omega
        rw [this, ex_img, if_neg h0, if_neg h1]
  · obtain ⟨h0, h1⟩ := (ex_uni τ).1 ht
    rw [ex_img]
    split
    · rename_i e
      rw [e, h0, rep_ground ex_vs.1, ex_strip.1]
    · split
      · rename_i e
        rw [e, h1, rep_ground ex_vs.2, ex_strip.2]
      · exact rep_varT hv
  · rw [ex_img] at hf ⊢
    split at hf
    · exact absurd hf (by decide)
    · split at hf
      · exact absurd hf (by decide)
      · rename_i h0 h1
        rw [if_neg h0, if_neg h1, varT_f]; omega
theorem ex_norm : normF exU = exU := by
  refine srt_eqU (normF_srt _) (by simp [exU]) fun v => ?_
  rw [findB_norm]
  have e : findB exU v = if (0 : Int) = v then some ⟨3, [⟨1, []⟩]⟩ else if (1 : Int) = v then some ⟨1, []⟩ else none := by
    unfold exU
    rw [findB, findB, findB]
  rw [e]
  by_cases h0 : (0 : Int) = v
  · rw [if_pos h0]
    show (if idleB ⟨v, ⟨3, [⟨1, []⟩]⟩⟩ then none else some _) = _
    rw [if_neg (by simp [idleB]), ex_strip.1]
  · rw [if_neg h0]
    by_cases h1 : (1 : Int) = v
    · rw [if_pos h1]
      show (if idleB ⟨v, ⟨1, []⟩⟩ then none else some _) = _
      rw [if_neg (by simp [idleB]), ex_strip.2]
    · rw [if_neg h1]
theorem ex_told : ToldU [(exX, exY)] (exU, true) := by
  refine .inr ⟨rfl, exU, ex_mgu, fun b hb => ?_, fun v hv => ?_, ex_norm.symm⟩
  · simp only [exU, List.mem_cons, List.not_mem_nil, or_false] at hb
    rcases hb with rfl | rfl <;> decide
  · rw [ex_img]
    split
    · exact .inr ⟨by simp [Tm.rng], by simp [Tm.size, Tm.flat]⟩
    · split
      · exact .inr ⟨by simp [Tm.rng], by simp [Tm.size, Tm.flat]⟩
      · exact .inl rfl
theorem ex_can : canB ⟨-1, []⟩ ⟨3, [⟨-1, []⟩]⟩ = false := canB_no fun τ h => by
  rw [uni_one] at h
  exact no_self τ ⟨-1, []⟩ (f := 3) (by decide) h
-- 
set_option maxHeartbeats 2000000 in
theorem alive8_abs (W : World) : AFun Try.prog W 15 [] (.val (.b true)) := by
  have hx : exX.rng ∧ exX.ok := ⟨by simp [exX, Tm.rng], by simp [exX, Tm.ok]⟩
  have hy : exY.rng ∧ exY.ok := ⟨by simp [exY, Tm.rng], by simp [exY, Tm.ok]⟩
  have hs : exX.size + exY.size ≤ 1000 := by simp [exX, exY, Tm.size, Tm.flat]
  refine afun_of (rs := [.b true]) Try.func15 Try.ntmps15 rfl rfl rfl rfl ?_
  intro w U hW
  have hu := uUnify_abs w exX exY hx.1 hx.2 hy.1 hy.2 hs (exU, true) ex_told
  have hc := uCan_abs w ⟨-1, []⟩ ⟨3, [⟨-1, []⟩]⟩ (by simp [Tm.rng]) (by simp [Tm.ok]) (by simp [Tm.rng]) (by simp [Tm.ok]) (by simp [Tm.size, Tm.flat])
  rw [ex_can] at hc
  have hex : exX.cw = .row [.i 4, .lst [.row [.i (-1), .lst []], .row [.i 1, .lst []]]] := by simp [exX, Tm.cv_eq]
  have hey : exY.cw = .row [.i 4, .lst [.row [.i 3, .lst [.row [.i (-2), .lst []]]], .row [.i (-2), .lst []]]] := by simp [exY, Tm.cv_eq]
  have heu : exU.map Bd.cv = [.row [.i 0, .row [.i 3, .lst [.row [.i 1, .lst []]]]], .row [.i 1, .row [.i 1, .lst []]]] := by simp [exU, Bd.cv, Bd.cw, Tm.cv_eq]
  have hcw : Tm.cw ⟨3, [⟨-1, []⟩]⟩ = .row [.i 3, .lst [.row [.i (-1), .lst []]]] := by simp [Tm.cv_eq]
  have hcv : Tm.cw ⟨-1, []⟩ = .row [.i (-1), .lst []] := by simp
  rw [hex, hey] at hu
  simp only [heu] at hu
  rw [hcw, hcv] at hc
  refine aS (aR ?_)
  (refine nx (aA (gN rfl) rfl rfl rfl rfl rfl) rfl ?_)
  show AWp _ _ _ _ _ _ _
  refine aS (aR ?_)
  (refine nx (a_buildP (gN rfl) rfl rfl rfl rfl rfl rfl rfl rfl rfl rfl rfl) rfl ?_)
  (refine nx (a_buildP (gN rfl) rfl rfl rfl rfl rfl rfl rfl rfl rfl rfl rfl) rfl ?_)
  (refine nx (a_bslice (gN rfl) rfl rfl rfl rfl rfl rfl rfl rfl rfl rfl rfl rfl rfl) rfl ?_)
  (refine nx (a_build (gN rfl) rfl rfl rfl rfl rfl rfl rfl rfl rfl rfl rfl) rfl ?_)
  (refine nx (a_alloc (gN rfl) rfl rfl rfl rfl rfl rfl rfl rfl rfl rfl) rfl ?_)
  (refine nx (aSt (gN rfl) rfl rfl rfl rfl rfl rfl rfl rfl rfl rfl) rfl ?_)
  show AWp _ _ _ _ _ _ _
  refine aS (aR ?_)
  (refine nx (a_build (gN rfl) rfl rfl rfl rfl rfl rfl rfl rfl rfl rfl rfl) rfl ?_)
  (refine nx (a_bslice (gN rfl) rfl rfl rfl rfl rfl rfl rfl rfl rfl rfl rfl rfl rfl) rfl ?_)
  (refine nx (a_build (gN rfl) rfl rfl rfl rfl rfl rfl rfl rfl rfl rfl rfl) rfl ?_)
  (refine nx (a_build (gN rfl) rfl rfl rfl rfl rfl rfl rfl rfl rfl rfl rfl) rfl ?_)
  (refine nx (a_bslice (gN rfl) rfl rfl rfl rfl rfl rfl rfl rfl rfl rfl rfl rfl rfl) rfl ?_)
  (refine nx (a_build (gN rfl) rfl rfl rfl rfl rfl rfl rfl rfl rfl rfl rfl) rfl ?_)
  (refine nx (a_alloc (gN rfl) rfl rfl rfl rfl rfl rfl rfl rfl rfl rfl) rfl ?_)
  (refine nx (aSt (gN rfl) rfl rfl rfl rfl rfl rfl rfl rfl rfl rfl) rfl ?_)
  show AWp _ _ _ _ _ _ _
  refine aS (aR ?_)
  (refine nx (aL (gN rfl) rfl rfl rfl rfl rfl rfl rfl rfl rfl rfl rfl rfl) rfl ?_)
  (refine nx (aL (gN rfl) rfl rfl rfl rfl rfl rfl rfl rfl rfl rfl rfl rfl) rfl ?_)
  (refine nx (a_call (gN rfl) rfl rfl rfl rfl rfl (hu)) rfl ?_)
  (refine nx (aM (gN rfl) rfl rfl rfl rfl rfl) rfl ?_)
  (refine nx (aX (gN rfl) rfl rfl rfl rfl rfl rfl) rfl ?_)
  (refine nx (aX (gN rfl) rfl rfl rfl rfl rfl rfl) rfl ?_)
  (refine nx (aA (gN rfl) rfl rfl rfl rfl rfl) rfl ?_)
  (refine nx (aA (gN rfl) rfl rfl rfl rfl rfl) rfl ?_)
  show AWp _ _ _ _ _ _ _
  refine aS (aR ?_)
  (refine nx (aM (gN rfl) rfl rfl rfl rfl rfl) rfl ?_)
  (refine nx (aM (gN rfl) rfl rfl rfl rfl rfl) rfl ?_)
  (refine nx (aM (gd_on rfl rfl rfl rfl (by first | rfl | assumption | (simp; done))) rfl rfl rfl rfl rfl) rfl ?_)
  (refine nx (a_len (gd_on rfl rfl rfl rfl (by first | rfl | assumption | (simp; done))) rfl rfl rfl rfl rfl rfl rfl) rfl ?_)
  (refine nx (a_eql (gd_on rfl rfl rfl rfl (by first | rfl | assumption | (simp; done))) rfl rfl rfl rfl rfl rfl) rfl ?_)
  (refine ⟨_, _, _, aPt (gN rfl) rfl rfl rfl rfl rfl ?hb rfl, rfl, ?_⟩; case hb => (first | rfl | assumption | (simp; done)))
  (refine nx (aM (gN rfl) rfl rfl rfl rfl rfl) rfl ?_)
  (refine nx (aM (gd_on rfl rfl rfl rfl (by first | rfl | assumption | (simp; done))) rfl rfl rfl rfl rfl) rfl ?_)
  (refine nx (a_index (j := 0) (gd_on rfl rfl rfl rfl (by first | rfl | assumption | (simp; done))) rfl rfl rfl rfl rfl rfl rfl rfl rfl (rfl) rfl (sZ rfl)) rfl ?_)
  (refine nx (a_field_ad (gd_on rfl rfl rfl rfl (by first | rfl | assumption | (simp; done))) rfl rfl rfl rfl rfl rfl rfl rfl rfl rfl rfl) rfl ?_)
  (refine nx (a_load_ad (gd_on rfl rfl rfl rfl (by first | rfl | assumption | (simp; done))) rfl rfl rfl rfl rfl rfl rfl rfl rfl) rfl ?_)
  (refine nx (a_eql (gd_on rfl rfl rfl rfl (by first | rfl | assumption | (simp; done))) rfl rfl rfl rfl rfl rfl) rfl ?_)
  (refine ⟨_, _, _, aPt (gN rfl) rfl rfl rfl rfl rfl ?hb rfl, rfl, ?_⟩; case hb => (first | rfl | assumption | (simp; done)))
  (refine nx (aM (gN rfl) rfl rfl rfl rfl rfl) rfl ?_)
  (refine nx (aM (gd_on rfl rfl rfl rfl (by first | rfl | assumption | (simp; done))) rfl rfl rfl rfl rfl) rfl ?_)
  (refine nx (a_index (j := 0) (gd_on rfl rfl rfl rfl (by first | rfl | assumption | (simp; done))) rfl rfl rfl rfl rfl rfl rfl rfl rfl (rfl) rfl (sZ rfl)) rfl ?_)
  (refine nx (a_field_ad (gd_on rfl rfl rfl rfl (by first | rfl | assumption | (simp; done))) rfl rfl rfl rfl rfl rfl rfl rfl rfl rfl rfl) rfl ?_)
  (refine nx (a_field_ad (gd_on rfl rfl rfl rfl (by first | rfl | assumption | (simp; done))) rfl rfl rfl rfl rfl rfl rfl rfl rfl rfl rfl) rfl ?_)
  (refine nx (a_load_ad (gd_on rfl rfl rfl rfl (by first | rfl | assumption | (simp; done))) rfl rfl rfl rfl rfl rfl rfl rfl rfl) rfl ?_)
  (refine nx (a_eql (gd_on rfl rfl rfl rfl (by first | rfl | assumption | (simp; done))) rfl rfl rfl rfl rfl rfl) rfl ?_)
  (refine ⟨_, _, _, aPt (gN rfl) rfl rfl rfl rfl rfl ?hb rfl, rfl, ?_⟩; case hb => (first | rfl | assumption | (simp; done)))
  (refine nx (aM (gN rfl) rfl rfl rfl rfl rfl) rfl ?_)
  (refine nx (aM (gd_on rfl rfl rfl rfl (by first | rfl | assumption | (simp; done))) rfl rfl rfl rfl rfl) rfl ?_)
  (refine nx (a_index (j := 0) (gd_on rfl rfl rfl rfl (by first | rfl | assumption | (simp; done))) rfl rfl rfl rfl rfl rfl rfl rfl rfl (rfl) rfl (sZ rfl)) rfl ?_)
  (refine nx (a_field_ad (gd_on rfl rfl rfl rfl (by first | rfl | assumption | (simp; done))) rfl rfl rfl rfl rfl rfl rfl rfl rfl rfl rfl) rfl ?_)
  (refine nx (a_field_ad (gd_on rfl rfl rfl rfl (by first | rfl | assumption | (simp; done))) rfl rfl rfl rfl rfl rfl rfl rfl rfl rfl rfl) rfl ?_)
  (refine nx (a_load_ad (gd_on rfl rfl rfl rfl (by first | rfl | assumption | (simp; done))) rfl rfl rfl rfl rfl rfl rfl rfl rfl) rfl ?_)
  (refine nx (a_index (j := 0) (gd_on rfl rfl rfl rfl (by first | rfl | assumption | (simp; done))) rfl rfl rfl rfl rfl rfl rfl rfl rfl (rfl) rfl (sZ rfl)) rfl ?_)
  (refine nx (a_field_ad (gd_on rfl rfl rfl rfl (by first | rfl | assumption | (simp; done))) rfl rfl rfl rfl rfl rfl rfl rfl rfl rfl rfl) rfl ?_)
  (refine nx (a_load_ad (gd_on rfl rfl rfl rfl (by first | rfl | assumption | (simp; done))) rfl rfl rfl rfl rfl rfl rfl rfl rfl) rfl ?_)
  (refine nx (a_eql (gd_on rfl rfl rfl rfl (by first | rfl | assumption | (simp; done))) rfl rfl rfl rfl rfl rfl) rfl ?_)
  (refine ⟨_, _, _, aPt (gN rfl) rfl rfl rfl rfl rfl ?hb rfl, rfl, ?_⟩; case hb => (first | rfl | assumption | (simp; done)))
  (refine nx (aM (gN rfl) rfl rfl rfl rfl rfl) rfl ?_)
  (refine nx (aM (gd_on rfl rfl rfl rfl (by first | rfl | assumption | (simp; done))) rfl rfl rfl rfl rfl) rfl ?_)
  (refine nx (a_index (j := 1) (gd_on rfl rfl rfl rfl (by first | rfl | assumption | (simp; done))) rfl rfl rfl rfl rfl rfl rfl rfl rfl (rfl) rfl (sZ rfl)) rfl ?_)
  (refine nx (a_field_ad (gd_on rfl rfl rfl rfl (by first | rfl | assumption | (simp; done))) rfl rfl rfl rfl rfl rfl rfl rfl rfl rfl rfl) rfl ?_)
  (refine nx (a_field_ad (gd_on rfl rfl rfl rfl (by first | rfl | assumption | (simp; done))) rfl rfl rfl rfl rfl rfl rfl rfl rfl rfl rfl) rfl ?_)
  (refine nx (a_load_ad (gd_on rfl rfl rfl rfl (by first | rfl | assumption | (simp; done))) rfl rfl rfl rfl rfl rfl rfl rfl rfl) rfl ?_)
  (refine nx (a_eql (gd_on rfl rfl rfl rfl (by first | rfl | assumption | (simp; done))) rfl rfl rfl rfl rfl rfl) rfl ?_)
  (refine ⟨_, _, _, aPt (gN rfl) rfl rfl rfl rfl rfl ?hb rfl, rfl, ?_⟩; case hb => (first | rfl | assumption | (simp; done)))
  (refine nx (aM (gN rfl) rfl rfl rfl rfl rfl) rfl ?_)
  (refine nx (a_build (gd_on rfl rfl rfl rfl (by first | rfl | assumption | (simp; done))) rfl rfl rfl rfl rfl rfl rfl rfl rfl rfl rfl) rfl ?_)
  (refine nx (a_build (gd_on rfl rfl rfl rfl (by first | rfl | assumption | (simp; done))) rfl rfl rfl rfl rfl rfl rfl rfl rfl rfl rfl) rfl ?_)
  (refine nx (a_bslice (gd_on rfl rfl rfl rfl (by first | rfl | assumption | (simp; done))) rfl rfl rfl rfl rfl rfl rfl rfl rfl rfl rfl rfl rfl) rfl ?_)
  (refine nx (a_build (gd_on rfl rfl rfl rfl (by first | rfl | assumption | (simp; done))) rfl rfl rfl rfl rfl rfl rfl rfl rfl rfl rfl) rfl ?_)
  (refine nx (a_call (gd_on rfl rfl rfl rfl (by first | rfl | assumption | (simp; done))) rfl rfl rfl rfl rfl (hc)) rfl ?_)
  (refine nx (a_not (gd_on rfl rfl rfl rfl (by first | rfl | assumption | (simp; done))) rfl rfl rfl rfl rfl) rfl ?_)
  (refine ⟨_, _, _, aPt (gN rfl) rfl rfl rfl rfl rfl ?hb rfl, rfl, ?_⟩; case hb => (first | rfl | assumption | (simp; done)))
  (refine nx (aA (gN rfl) rfl rfl rfl rfl rfl) rfl ?_)
  show AWp _ _ _ _ _ _ _
  exact aT (And.intro (.inr rfl) rfl)

theorem tiny2_of {a b : Tm} (ha : 0 ≤ smallT a 16 8) (hb : 0 ≤ smallT b 16 8) : Tiny2 [(a, b)] := fun p hp => by
  rw [List.mem_singleton] at hp
  rw [hp]
  exact ⟨(tiny_facts ha).2, (tiny_facts hb).2⟩
theorem tinyB_four {a b c d : Tm} (h : tinyB [a, b, c, d] = true) : Tiny2 [(a, b), (c, d)] ∧ 0 ≤ smallT a 16 8 ∧ 0 ≤ smallT b 16 8 ∧ 0 ≤ smallT c 16 8 ∧ 0 ≤ smallT d 16 8 := by
  have h1 := List.all_eq_true.1 h
  have ha := of_decide_eq_true (h1 a (by simp))
  have hb := of_decide_eq_true (h1 b (by simp))
  have hc := of_decide_eq_true (h1 c (by simp))
  have hd := of_decide_eq_true (h1 d (by simp))
  refine ⟨fun p hp => ?_, ha, hb, hc, hd⟩
  simp only [List.mem_cons, List.not_mem_nil, or_false] at hp
  rcases hp with rfl | rfl
  · exact ⟨(tiny_facts ha).2, (tiny_facts hb).2⟩
  · exact ⟨(tiny_facts hc).2, (tiny_facts hd).2⟩
end Go.Proofs.Ytiammidklcjelaa
namespace Go.Proofs.Ytiammidklcjelaa
open Go.RowKit
set_option linter.unusedVariables false
set_option linter.unusedSimpArgs false
abbrev SrtS (l : List Bd) : Prop := l.Pairwise fun x y => x.v < y.v
def fnI (o : Option Tm) (v : Int) : Option Tm := match o with | some t => if idleB ⟨v, t⟩ then none else some t | none => none

theorem findB_lt {l : List Bd} {v : Int} (h : ∀ c ∈ l, v < c.v) : findB l v = none := findB_none fun b hb => by have := h b hb; omega
theorem srt_eq : ∀ {A B : List Bd}, SrtS A → SrtS B → (∀ v, (findB A v).map Tm.strip = (findB B v).map Tm.strip) → A.map Bd.strip = B.map Bd.strip
  | [], [], _, _, _ => rfl
  | [], b :: B, _, _, h => by have := h b.v; rw [findB, findB, if_pos rfl] at this; cases this
  | a :: A, [], _, _, h => by have := h a.v; rw [findB, findB, if_pos rfl] at this; cases this
  | a :: A, b :: B, hA, hB, h => by
    have hA := List.pairwise_cons.1 hA
    have hB := List.pairwise_cons.1 hB
    have hv : a.v = b.v := by
      rcases Int.lt_trichotomy a.v b.v with h1 | h1 | h1
      · have h2 := h a.v
        rw [findB, if_pos rfl, findB_lt (l := b :: B) (fun c hc => by
          rcases List.mem_cons.1 hc with rfl | hc
          · exact h1
          · have := hB.1 c hc; omega)] at h2
        cases h2
      · exact h1
      · have h2 := h b.v
        rw [findB_lt (l := a :: A) (fun c hc => by
          rcases List.mem_cons.1 hc with rfl | hc
          · exact h1
          · have := hA.1 c hc; omega), findB, if_pos rfl] at h2
        cases h2
    have ht : a.t.strip = b.t.strip := by
      have h2 := h a.v
      rw [findB, if_pos rfl, findB, if_pos hv.symm] at h2
      exact Option.some.inj h2
    rw [List.map_cons, List.map_cons, srt_eq hA.2 hB.2 fun v => ?_]
    · congr 1
      unfold Bd.strip
      rw [hv, ht]
    · by_cases e : v = a.v
      · subst e
        rw [findB_lt hA.1, findB_lt (l := B) (fun c hc => by have := hB.1 c hc; omega)]
      · have h2 := h v
        rw [findB, if_neg (fun h => e h.symm), findB, if_neg (fun h => e (by omega))] at h2
        exact h2

theorem lessN_take (v : Int) : ∀ (l : List Bd), ∀ c ∈ l.take (lessN v l), c.v < v
  | [], c, h => by simp at h
  | b :: l, c, h => by
    rw [lessN] at h
    split at h
    · rename_i hb
      rw [List.take_succ_cons] at h
      rcases List.mem_cons.1 h with rfl | h
      · exact hb
      · exact lessN_take v l c h
    · simp at h
theorem lessN_drop {v : Int} : ∀ {l : List Bd}, SrtS l → (∀ c ∈ l, c.v ≠ v) → ∀ c ∈ l.drop (lessN v l), v < c.v
  | [], _, _, c, h => by simp at h
  | b :: l, hs, hn, c, h => by
    have hs := List.pairwise_cons.1 hs
    rw [lessN] at h
    split at h
    · rw [List.drop_succ_cons] at h
      exact lessN_drop hs.2 (fun x hx => hn x (List.mem_cons_of_mem _ hx)) c h
    · rename_i hb
      have := hn b (by simp)
      rw [List.drop_zero] at h
      rcases List.mem_cons.1 h with rfl | h
      · omega
      · have := hs.1 c h; omega
theorem insV_srt {b : Bd} {l : List Bd} (hs : SrtS l) (hn : ∀ c ∈ l, c.v ≠ b.v) : SrtS (insV b l) := by
  have h1 := lessN_take b.v l
  have h2 := lessN_drop hs hn
  have hs2 : SrtS (l.take (lessN b.v l) ++ l.drop (lessN b.v l)) := by rw [List.take_append_drop]; exact hs
  unfold insV
  rw [List.append_assoc]
  unfold SrtS at hs2 ⊢
  rw [List.pairwise_append] at hs2 ⊢
  refine ⟨hs2.1, ?_, fun x hx y hy => ?_⟩
  · rw [List.singleton_append, List.pairwise_cons]
    exact ⟨h2, hs2.2.1⟩
  · rw [List.singleton_append] at hy
    rcases List.mem_cons.1 hy with rfl | hy
    · exact h1 x hx
    · exact hs2.2.2 x hx y hy
theorem findB_is_none {l : List Bd} {v : Int} (h : findB l v = none) : ∀ c ∈ l, c.v ≠ v := fun c hc e => by
  obtain ⟨t, ht⟩ := findB_some_of_mem hc
  rw [e, h] at ht
  cases ht
theorem findB_ins {b : Bd} {l : List Bd} (hn : findB l b.v = none) (v : Int) : findB (insV b l) v = if b.v = v then some b.t else findB l v := by
  unfold insV
  rw [findB_appd, findB_appd]
  have hl : findB l v = (findB (l.take (lessN b.v l)) v).or (findB (l.drop (lessN b.v l)) v) := by rw [← findB_appd, List.take_append_drop]
  have h1 : findB [b] v = if b.v = v then some b.t else none := by simp only [findB]
  rw [h1]
  by_cases e : b.v = v
  · subst e
    rw [if_pos rfl, if_pos rfl]
    have : findB (l.take (lessN b.v l)) b.v = none := findB_none fun c hc => findB_is_none hn c (List.mem_of_mem_take hc)
    rw [this]; rfl
  · rw [if_neg e, if_neg e, hl]
    simp
theorem known_iff (L : List Bd) (i : Nat) (v : Int) : knownB L i v = (findB (L.take i) v).isSome := by
  unfold knownB
  generalize L.take i = l
  induction l with
  | nil => rfl
  | cons b l ih =>
    rw [List.any_cons, findB, ih]
    by_cases h : b.v = v
    · simp [h]
    · simp [h]
theorem rnm_spec (L : List Bd) : ∀ i, SrtS (rnmF L i) ∧ ∀ v, findB (rnmF L i) v = fnI (findB (L.take i) v) v
  | 0 => ⟨List.Pairwise.nil, fun v => rfl⟩
  | i + 1 => by
    obtain ⟨ih1, ih2⟩ := rnm_spec L i
    cases hx : L[i]? with
    | none =>
      have : L.take (i + 1) = L.take i := by rw [List.take_add_one, hx]; simp
      rw [rnmF, hx, this]
      exact ⟨ih1, ih2⟩
    | some b =>
      have htk := take_snoc hx
      have hstep : ∀ v, findB (L.take (i + 1)) v = (findB (L.take i) v).or (if b.v = v then some b.t else none) := fun v => by rw [htk, findB_snoc]
      rw [rnmF, hx]
      simp only
      cases hk : knownB L i b.v with
      | true =>
        rw [known_iff] at hk
        simp only [Bool.true_or, if_true]
        refine ⟨ih1, fun v => ?_⟩
        rw [ih2 v, hstep v]
        by_cases e : b.v = v
        · subst e
          cases h : findB (L.take i) b.v with
          | none => rw [h] at hk; cases hk
          | some t => rfl
        · rw [if_neg e]; simp
      | false =>
        rw [known_iff] at hk
        have hnone : findB (L.take i) b.v = none := by
          cases h : findB (L.take i) b.v with
          | none => rfl
          | some t => rw [h] at hk; cases hk
        have hOn : findB (rnmF L i) b.v = none := by rw [ih2, hnone]; rfl
        cases hid : idleB b with
        | true =>
          simp only [Bool.or_true, if_true]
          refine ⟨ih1, fun v => ?_⟩
          rw [ih2 v, hstep v]
          by_cases e : b.v = v
          · subst e
            rw [hnone, if_pos rfl]
            show none = fnI (some b.t) b.v
            have h3 : idleB ⟨b.v, b.t⟩ = true := hid
            simp only [fnI, h3, if_true]
          · rw [if_neg e]; simp
        | false =>
          simp only [Bool.or_false, Bool.false_eq_true, if_false]
          refine ⟨insV_srt ih1 (findB_is_none hOn), fun v => ?_⟩
          rw [findB_ins hOn v, hstep v]
          by_cases e : b.v = v
          · subst e
            rw [hnone, if_pos rfl, if_pos rfl]
            show some b.t = fnI (some b.t) b.v
            have h3 : idleB ⟨b.v, b.t⟩ = false := hid
            simp only [fnI, h3, Bool.false_eq_true, if_false]
          · rw [if_neg e, if_neg e, ih2 v]; simp
theorem norm_doc (L : List Bd) : (normF L).map Bd.strip = (rnmF L L.length).map Bd.strip := by
  obtain ⟨h1, h2⟩ := rnm_spec L L.length
  refine srt_eq (normF_srt L) h1 fun v => ?_
  rw [findB_norm, h2, List.take_length]
  unfold fnI
  cases findB L v with
  | none => rfl
  | some t =>
    simp only
    split
    · rfl
    · show some t.strip.strip = some t.strip
      rw [Tm.strip_strip]
theorem same7_strip : ∀ {l m : List Bd}, l.map Bd.strip = m.map Bd.strip → same7 l m = true
  | [], [], _ => rfl
  | [], _ :: _, h => by simp at h
  | _ :: _, [], h => by simp at h
  | a :: l, b :: m, h => by
    rw [List.map_cons, List.map_cons] at h
    injection h with h1 h2
    unfold Bd.strip at h1
    injection h1 with h3 h4
    rw [same7, same7_strip h2, (sameT_iff _ _).2 h4]
    simp [h3]
theorem rnmF_mem (L : List Bd) : ∀ (i : Nat) (b : Bd), b ∈ rnmF L i → b ∈ L
  | 0, b, h => by cases h
  | i + 1, b, h => by
    rw [rnmF] at h
    split at h
    · exact rnmF_mem L i b h
    · rename_i c hc
      split at h
      · exact rnmF_mem L i b h
      · unfold insV at h
        rcases List.mem_append.1 h with h | h
        · rcases List.mem_append.1 h with h | h
          · exact rnmF_mem L i b (List.mem_of_mem_take h)
          · rw [List.mem_singleton.1 h]; exact List.mem_of_getElem? hc
        · exact rnmF_mem L i b (List.mem_of_mem_drop h)
end Go.Proofs.Ytiammidklcjelaa
