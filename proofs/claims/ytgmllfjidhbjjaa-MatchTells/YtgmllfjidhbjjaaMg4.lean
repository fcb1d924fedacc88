/-
  TmSm SbSmall TmOrd RfSame RfLess RfFlat RfVars AbOf SbVnt SbRen MtMath SbSort SbClone
-/
import Derived.Test.YtgmllfjidhbjjaaMg3
import Derived.Test.YtgmllfjidhbjjaaMg2
namespace Go.Proofs.Ytgmllfjidhbjjaa
open Go.RowKit
set_option linter.unusedVariables false
set_option linter.unusedSimpArgs false

def Tm.sm : Tm → Prop
  | ⟨f, l⟩ => (-1000 ≤ f ∧ f ≤ 1000) ∧ ∀ t ∈ l, Tm.sm t
theorem Tm.sm_iff (t : Tm) : t.sm ↔ (-1000 ≤ t.f ∧ t.f ≤ 1000) ∧ ∀ s ∈ t.l, s.sm := by cases t; rw [Tm.sm]
theorem small_sm (t : Tm) : ∀ most deep, 0 ≤ smallT t most deep → t.sm := by
  induction t using Tm.ind with
  | h f l ih =>
    intro most deep h
    rw [smallT_eq] at h
    split at h
    · omega
    · rename_i hc
      refine (Tm.sm_iff _).2 ⟨⟨by show -1000 ≤ f; omega, by show f ≤ 1000; omega⟩, ?_⟩
      have : ∀ (l : List Tm) (m d : Int), (∀ t ∈ l, ∀ most deep, 0 ≤ smallT t most deep → t.sm) → 0 ≤ smallL l m d → ∀ t ∈ l, t.sm := by
        intro l
        induction l with
        | nil => intro m d _ _ t ht; cases ht
        | cons y ys ih2 =>
          intro m d hl h t ht
          rw [smallL_cons] at h
          split at h
          · omega
          · have hy : 0 ≤ smallT y m d := by
              rcases Int.lt_or_le (smallT y m d) 0 with h1 | h1
              · rw [smallL_neg ys d h1] at h; omega
              · exact h1
            rcases List.mem_cons.1 ht with rfl | ht
            · exact hl t (by simp) m d hy
            · exact ih2 (smallT y m d) d (fun s hs => hl s (List.mem_cons_of_mem _ hs)) h t ht
      exact this l _ _ ih h
theorem Tm.sm_rng {t : Tm} (h : t.sm) : t.rng := by
  induction t using Tm.ind with
  | h f l ih =>
    obtain ⟨h1, h2⟩ := (Tm.sm_iff _).1 h
    exact (Tm.rng_iff _).2 ⟨by simp only at h1 ⊢; omega, fun s hs => ih s hs (h2 s hs)⟩
theorem Tm.wt_ok {t : Tm} (h : t.wt ≤ 1000000) : t.ok := by
  induction t using Tm.ind with
  | h f l ih =>
    rw [Tm.wt_eq] at h
    simp only at h
    have := Tm.wts_len l
    exact (Tm.ok_iff _).2 ⟨by simp only; omega, fun s hs => ih s hs (by have : s.wt ≤ Tm.wts l := Tm.wts_mem hs; omega)⟩
theorem Tm.sm_flat {t : Tm} (h : t.sm) : ∀ s ∈ t.flat, -1000 ≤ s.f ∧ s.f ≤ 1000 := by
  induction t using Tm.indp with
  | h t ih =>
    intro s hs
    rw [Tm.flat_eq] at hs
    rcases List.mem_cons.1 hs with rfl | hs
    · exact ((Tm.sm_iff _).1 h).1
    · obtain ⟨u, hu, hs⟩ := List.mem_flatMap.1 hs
      exact ih u hu (((Tm.sm_iff _).1 h).2 u (Tm.ps_mem hu).1) s hs
theorem Tm.strip_rng {t : Tm} (h : t.rng) : t.strip.rng := by
  induction t using Tm.indp with
  | h t ih =>
    obtain ⟨h1, h2⟩ := (Tm.rng_iff _).1 h
    refine (Tm.rng_iff _).2 ⟨by rw [Tm.strip_f]; exact h1, fun s hs => ?_⟩
    rw [Tm.strip_l] at hs
    obtain ⟨u, hu, rfl⟩ := List.mem_map.1 hs
    exact ih u hu (h2 u (Tm.ps_mem hu).1)
theorem Tm.strip_ok {t : Tm} (h : t.ok) : t.strip.ok := by
  induction t using Tm.indp with
  | h t ih =>
    obtain ⟨h1, h2⟩ := (Tm.ok_iff _).1 h
    refine (Tm.ok_iff _).2 ⟨?_, fun s hs => ?_⟩
    · rw [Tm.strip_l, List.length_map]
      unfold Tm.ps
      split
      · simp
      · exact h1
    · rw [Tm.strip_l] at hs
      obtain ⟨u, hu, rfl⟩ := List.mem_map.1 hs
      exact ih u hu (h2 u (Tm.ps_mem hu).1)
theorem leaf_rng {f : Int} (h1 : -9223372036854775808 ≤ f) (h2 : f ≤ 9223372036854775807) : (Tm.mk f []).rng := (Tm.rng_iff _).2 ⟨⟨h1, h2⟩, fun s hs => by cases hs⟩
theorem leaf_ok (f : Int) : (Tm.mk f []).ok := (Tm.ok_iff _).2 ⟨by show 0 ≤ _; omega, fun s hs => by cases hs⟩
theorem leaf_size (f : Int) : (Tm.mk f []).size = 1 := by
  rw [Tm.size_eq]
  have : (Tm.mk f []).ps = [] := by unfold Tm.ps; simp
  rw [this]; rfl
end Go.Proofs.Ytgmllfjidhbjjaa

namespace Go.Proofs.Ytgmllfjidhbjjaa
open Go.RowKit
set_option linter.unusedVariables false
set_option linter.unusedSimpArgs false
set_option maxRecDepth 100000

theorem repT_rng {img : Int → Tm} {t : Tm} (h : t.rng) (hi : ∀ v, 0 ≤ v → v ≤ 9223372036854775807 → (img v).rng) : (repT img t).rng := by
  induction t using Tm.ind with
  | h f l ih =>
    obtain ⟨h1, h2⟩ := (Tm.rng_iff _).1 h
    simp only at h1 h2
    by_cases hf : f < 0
    · rw [repT_var hf]; exact Tm.strip_rng (hi _ (by simp only; omega) (by simp only; omega))
    · rw [repT_sym hf]
      refine (Tm.rng_iff _).2 ⟨h1, fun s hs => ?_⟩
      obtain ⟨u, hu, rfl⟩ := List.mem_map.1 hs
      exact ih u hu (h2 u hu)
theorem repT_ok {img : Int → Tm} {t : Tm} (h : t.ok) (hi : ∀ v, (img v).ok) : (repT img t).ok := by
  induction t using Tm.ind with
  | h f l ih =>
    obtain ⟨h1, h2⟩ := (Tm.ok_iff _).1 h
    simp only at h1 h2
    by_cases hf : f < 0
    · rw [repT_var hf]; exact Tm.strip_ok (hi _)
    · rw [repT_sym hf]
      refine (Tm.ok_iff _).2 ⟨by simpa using h1, fun s hs => ?_⟩
      obtain ⟨u, hu, rfl⟩ := List.mem_map.1 hs
      exact ih u hu (h2 u hu)
theorem varT_ok (v : Int) : (varT v).ok := (Tm.ok_iff _).2 ⟨by show 0 ≤ _; omega, fun s hs => by cases hs⟩
theorem imgB_ok2 {l : List Bd} (h : ∀ b ∈ l, b.t.ok) (v : Int) : (imgB l v).ok := by
  unfold imgB
  cases hf : findB l v with
  | none => exact varT_ok v
  | some t =>
    obtain ⟨b, hb, e, _⟩ := findB_mem hf
    show t.ok
    rw [← e]
    exact h b hb
theorem leaf_vs (f : Int) (h : 0 ≤ f) : (Tm.mk f []).vs = [] := by rw [Tm.vs_sym (by show ¬ f < 0; omega)]; rfl
theorem varT_vs {v : Int} (h : 0 ≤ v) : (varT v).vs = [v] := by rw [Tm.vs_var (by show -1 - v < 0; omega)]; show [-1 - (-1 - v)] = [v]; rw [show -1 - (-1 - v) = v by omega]

theorem alive_app : repT (imgB [⟨0, ⟨1, []⟩⟩]) ⟨4, [⟨-1, []⟩, ⟨-2, []⟩]⟩ = ⟨4, [⟨1, []⟩, ⟨-2, []⟩]⟩ := by
  rw [repT_sym (by decide)]
  simp only [List.map_cons, List.map_nil]
  rw [repT_var (by decide), repT_var (by decide)]
  simp [imgB, findB, varT, Tm.strip_eq, Tm.ps]
end Go.Proofs.Ytgmllfjidhbjjaa

namespace Go.Proofs.Ytgmllfjidhbjjaa
set_option linter.unusedVariables false
set_option linter.unusedSimpArgs false

theorem cmpZ_cases (x y : Int) : (cmpZ x y = -1 ∧ x < y) ∨ (cmpZ x y = 0 ∧ x = y) ∨ (cmpZ x y = 1 ∧ y < x) := by
  unfold cmpZ
  split
  · exact .inl ⟨rfl, by assumption⟩
  · split
    · exact .inr (.inr ⟨rfl, by assumption⟩)
    · exact .inr (.inl ⟨rfl, by omega⟩)

/-- A head's place among heads. -/
def rank (x : Int) : Int × Int := if x < 0 then (0, -1 - x) else (1, x)
theorem cmpH_cases (x y : Int) : (cmpH x y = -1 ∧ ((x < 0 ∧ y < 0 ∧ y < x) ∨ (¬ (x < 0 ∧ y < 0) ∧ x < y))) ∨ (cmpH x y = 0 ∧ x = y) ∨ (cmpH x y = 1 ∧ ((x < 0 ∧ y < 0 ∧ x < y) ∨ (¬ (x < 0 ∧ y < 0) ∧ y < x))) := by
  unfold cmpH
  split
  · have := cmpZ_cases (-1 - x) (-1 - y)
    omega
  · have := cmpZ_cases x y
    omega

/-- A comparison that is an order on these. -/
structure CmpOk (c : Int) : Prop where
  three : c = -1 ∨ c = 0 ∨ c = 1

theorem cmpT_three (a : Tm) : ∀ b, cmpT a b = -1 ∨ cmpT a b = 0 ∨ cmpT a b = 1 := by
  induction a using Tm.indp with
  | h a ih =>
    intro b
    rw [cmpT_eq]
    split
    · have := cmpH_cases a.f b.f; omega
    · split
      · have := cmpZ_cases a.ps.length b.ps.length; omega
      · have : ∀ (l m : List Tm), (∀ s ∈ l, ∀ b, cmpT s b = -1 ∨ cmpT s b = 0 ∨ cmpT s b = 1) → cmpL l m = -1 ∨ cmpL l m = 0 ∨ cmpL l m = 1 := by
          intro l
          induction l with
          | nil => intro m _; cases m <;> simp [cmpL_nil, cmpL_lt, cmpL_gt]
          | cons y ys ih2 =>
            intro m hl
            cases m with
            | nil => simp [cmpL_nil, cmpL_lt, cmpL_gt]
            | cons z zs =>
              rw [cmpL_cons]
              split
              · exact hl y (by simp) z
              · exact ih2 zs (fun s hs => hl s (List.mem_cons_of_mem _ hs))
        exact this _ _ ih

theorem cmpT_zero (a : Tm) : ∀ b, cmpT a b = 0 ↔ a.strip = b.strip := by
  induction a using Tm.indp with
  | h a ih =>
    intro b
    rw [cmpT_eq, Tm.strip_eq a, Tm.strip_eq b]
    have hL : ∀ (l m : List Tm), (∀ s ∈ l, ∀ b, cmpT s b = 0 ↔ s.strip = b.strip) → (cmpL l m = 0 ↔ l.map Tm.strip = m.map Tm.strip) := by
      intro l
      induction l with
      | nil => intro m _; cases m <;> simp [cmpL_nil, cmpL_lt, cmpL_gt]
      | cons y ys ih2 =>
        intro m hl
        cases m with
        | nil => simp [cmpL_nil, cmpL_lt, cmpL_gt]
        | cons z zs =>
          rw [cmpL_cons, List.map_cons, List.map_cons, List.cons.injEq, ← hl y (by simp) z, ← ih2 zs (fun s hs => hl s (List.mem_cons_of_mem _ hs))]
          by_cases h : cmpT y z = 0 <;> simp [h]
    rw [Tm.mk.injEq]
    by_cases h1 : a.f = b.f
    · rw [if_neg (by simp [h1])]
      by_cases h2 : a.ps.length = b.ps.length
      · rw [if_neg (by simp [h2]), hL _ _ ih]
        simp [h1]
      · rw [if_pos h2]
        constructor
        · intro h3
          have := cmpZ_cases a.ps.length b.ps.length
          omega
        · rintro ⟨_, h3⟩
          exact absurd (by simpa using congrArg List.length h3) h2
    · rw [if_pos h1]
      constructor
      · intro h3
        have := cmpH_cases a.f b.f
        omega
      · rintro ⟨h3, _⟩
        exact absurd h3 h1

theorem cmpT_self (a : Tm) : cmpT a a = 0 := (cmpT_zero a a).2 rfl
theorem cmpT_strip (a : Tm) : cmpT a.strip a = 0 := (cmpT_zero _ _).2 (Tm.strip_strip a)

theorem cmpT_turn (a : Tm) : ∀ b, cmpT b a = - cmpT a b := by
  induction a using Tm.indp with
  | h a ih =>
    intro b
    rw [cmpT_eq b a, cmpT_eq a b]
    have hL : ∀ (l m : List Tm), (∀ s ∈ l, ∀ b, cmpT b s = - cmpT s b) → cmpL m l = - cmpL l m := by
      intro l
      induction l with
      | nil => intro m _; cases m <;> simp [cmpL_nil, cmpL_lt, cmpL_gt]
      | cons y ys ih2 =>
        intro m hl
        cases m with
        | nil => simp [cmpL_nil, cmpL_lt, cmpL_gt]
        | cons z zs =>
          rw [cmpL_cons, cmpL_cons, hl y (by simp) z, ih2 zs (fun s hs => hl s (List.mem_cons_of_mem _ hs))]
          by_cases h : cmpT y z = 0 <;> simp [h]
    by_cases h1 : a.f = b.f
    · by_cases h2 : a.ps.length = b.ps.length
      · simp only [h1, h2, ne_eq, not_true_eq_false, if_false]
        exact hL _ _ ih
      · have h2' : ¬ b.ps.length = a.ps.length := fun e => h2 e.symm
        simp only [h1, h2, h2', ne_eq, not_true_eq_false, not_false_eq_true, if_false, if_true]
        have := cmpZ_cases a.ps.length b.ps.length
        have := cmpZ_cases b.ps.length a.ps.length
        omega
    · have h1' : ¬ b.f = a.f := fun e => h1 e.symm
      simp only [h1, h1', ne_eq, not_false_eq_true, if_true]
      have := cmpH_cases a.f b.f
      have := cmpH_cases b.f a.f
      omega

theorem cmpT_stripL (a : Tm) : ∀ b, cmpT a.strip b = cmpT a b := by
  induction a using Tm.indp with
  | h a ih =>
    intro b
    rw [cmpT_eq a.strip b, cmpT_eq a b, Tm.strip_f, Tm.strip_ps, List.length_map]
    have hL : ∀ (l m : List Tm), (∀ s ∈ l, ∀ b, cmpT s.strip b = cmpT s b) → cmpL (l.map Tm.strip) m = cmpL l m := by
      intro l
      induction l with
      | nil => intro m _; rfl
      | cons y ys ih2 =>
        intro m hl
        cases m with
        | nil => simp [cmpL_nil, cmpL_lt, cmpL_gt]
        | cons z zs => rw [List.map_cons, cmpL_cons, cmpL_cons, hl y (by simp) z, ih2 zs (fun s hs => hl s (List.mem_cons_of_mem _ hs))]
    rw [hL _ _ ih]
theorem cmpT_congr {a a' : Tm} (h : a.strip = a'.strip) (b : Tm) : cmpT a b = cmpT a' b := by rw [← cmpT_stripL a, ← cmpT_stripL a', h]

theorem cmpL_three (l m : List Tm) : cmpL l m = -1 ∨ cmpL l m = 0 ∨ cmpL l m = 1 := by
  induction l generalizing m with
  | nil => cases m <;> simp [cmpL_nil, cmpL_lt, cmpL_gt]
  | cons y ys ih2 =>
    cases m with
    | nil => simp [cmpL_nil, cmpL_lt, cmpL_gt]
    | cons z zs =>
      rw [cmpL_cons]
      split
      · exact cmpT_three y z
      · exact ih2 zs

/-- Over two it goes on; strict if one of both is. -/
def Goon (p q r : Int) : Prop := p ≤ 0 → q ≤ 0 → r ≤ 0 ∧ (r = 0 → p = 0 ∧ q = 0)

theorem goon_step {p1 q1 r1 p2 q2 r2 : Int} (g1 : Goon p1 q1 r1) (g2 : Goon p2 q2 r2) (g3 : p1 = 0 → r1 = q1) : Goon (if p1 ≠ 0 then p1 else p2) (if q1 ≠ 0 then q1 else q2) (if r1 ≠ 0 then r1 else r2) := by
  unfold Goon at *
  intro hp hq
  split at hp <;> split at hq <;> split <;> first | omega | (simp_all; done) | (simp_all; omega)
theorem cmpT_f {a b : Tm} (h : a.f ≠ b.f) : cmpT a b = cmpH a.f b.f := by rw [cmpT_eq, if_pos h]
theorem cmpT_n {a b : Tm} (h : a.f = b.f) (h2 : a.ps.length ≠ b.ps.length) : cmpT a b = cmpZ a.ps.length b.ps.length := by rw [cmpT_eq, if_neg (by simp [h]), if_pos h2]
theorem cmpT_l {a b : Tm} (h : a.f = b.f) (h2 : a.ps.length = b.ps.length) : cmpT a b = cmpL a.ps b.ps := by rw [cmpT_eq, if_neg (by simp [h]), if_neg (by simp [h2])]

theorem cmpT_trans (a : Tm) : ∀ b c, Goon (cmpT a b) (cmpT b c) (cmpT a c) := by
  induction a using Tm.indp with
  | h a ih =>
    intro b c hp hq
    have hL : ∀ (l m n : List Tm), l.length = m.length → m.length = n.length → (∀ s ∈ l, ∀ b c, Goon (cmpT s b) (cmpT b c) (cmpT s c)) → Goon (cmpL l m) (cmpL m n) (cmpL l n) := by
      intro l
      induction l with
      | nil =>
        intro m n h1 h2 _
        have : m = [] := List.eq_nil_of_length_eq_zero (by simpa using h1.symm)
        subst this
        have : n = [] := List.eq_nil_of_length_eq_zero (by simpa using h2.symm)
        subst this
        simp [cmpL_nil, Goon]
      | cons y ys ih2 =>
        intro m n h1 h2 hl
        cases m with
        | nil => simp at h1
        | cons z zs =>
          cases n with
          | nil => simp at h2
          | cons u us =>
            have g1 := hl y (by simp) z u
            have g2 := ih2 zs us (by simpa using h1) (by simpa using h2) (fun s hs => hl s (List.mem_cons_of_mem _ hs))
            have g3 : cmpT y z = 0 → cmpT y u = cmpT z u := fun e => cmpT_congr ((cmpT_zero _ _).1 e) u
            rw [cmpL_cons, cmpL_cons, cmpL_cons]
            exact goon_step g1 g2 g3
    have hab := cmpH_cases a.f b.f
    have hbc := cmpH_cases b.f c.f
    have hac := cmpH_cases a.f c.f
    have zab := cmpZ_cases a.ps.length b.ps.length
    have zbc := cmpZ_cases b.ps.length c.ps.length
    have zac := cmpZ_cases a.ps.length c.ps.length
    by_cases f1 : a.f = b.f <;> by_cases f2 : b.f = c.f
    · have f3 : a.f = c.f := f1.trans f2
      by_cases l1 : a.ps.length = b.ps.length <;> by_cases l2 : b.ps.length = c.ps.length
      · rw [cmpT_l f1 l1] at hp ⊢
        rw [cmpT_l f2 l2] at hq ⊢
        rw [cmpT_l f3 (l1.trans l2)]
        exact hL _ _ _ l1 l2 ih hp hq
      · rw [cmpT_l f1 l1] at hp ⊢
        rw [cmpT_n f2 l2] at hq ⊢
        rw [cmpT_n f3 (by omega)]
        clear hL ih
        omega
      · rw [cmpT_n f1 l1] at hp ⊢
        rw [cmpT_l f2 l2] at hq ⊢
        rw [cmpT_n f3 (by omega)]
        clear hL ih
        omega
      · rw [cmpT_n f1 l1] at hp ⊢
        rw [cmpT_n f2 l2] at hq ⊢
        by_cases l3 : a.ps.length = c.ps.length
        · omega
        · rw [cmpT_n f3 l3]
          clear hL ih
          omega
    · have f3 : a.f ≠ c.f := by omega
      rw [cmpT_f f2] at hq ⊢
      rw [cmpT_f f3]
      clear hL ih
      omega
    · have f3 : a.f ≠ c.f := by omega
      rw [cmpT_f f1] at hp ⊢
      rw [cmpT_f f3]
      clear hL ih
      omega
    · rw [cmpT_f f1] at hp ⊢
      rw [cmpT_f f2] at hq ⊢
      by_cases f3 : a.f = c.f
      · omega
      · rw [cmpT_f f3]
        clear hL ih
        omega

theorem sameT_iff (a b : Tm) : sameT a b = true ↔ a.strip = b.strip := by
  unfold sameT
  rw [beq_iff_eq]
  exact cmpT_zero a b
theorem strip_sym {f : Int} (l : List Tm) (h : 0 ≤ f) : (Tm.mk f l).strip = .mk f (l.map Tm.strip) := by rw [Tm.strip_eq, Tm.ps_of_sym (t := .mk f l) h]
theorem same_pq {f : Int} (x y : Tm) (h : 0 ≤ f) : sameT (.mk f [x, y]) (.mk f [y, x]) = sameT x y := by
  rw [Bool.eq_iff_iff, sameT_iff, sameT_iff, strip_sym _ h, strip_sym _ h]
  simp only [List.map_cons, List.map_nil, Tm.mk.injEq, List.cons.injEq, true_and, and_true]
  exact ⟨fun e => e.1, fun e => ⟨e, e.symm⟩⟩
theorem same_cp {f : Int} (x y : Tm) (h : 0 ≤ f) : sameT (.mk f [⟨999, []⟩, y.strip]) (.mk f [x, y]) = sameT x ⟨999, []⟩ := by
  rw [Bool.eq_iff_iff, sameT_iff, sameT_iff, strip_sym _ h, strip_sym _ h]
  simp only [List.map_cons, List.map_nil, Tm.mk.injEq, List.cons.injEq, true_and, and_true, Tm.strip_strip]
  exact ⟨fun e => e.symm, fun e => e.symm⟩
theorem same_var {f : Int} (l m : List Tm) (h : f < 0) : sameT (.mk f l) (.mk f m) = true := by
  rw [sameT_iff, Tm.strip_eq, Tm.strip_eq, Tm.ps_of_var (t := .mk f l) h, Tm.ps_of_var (t := .mk f m) h]
theorem same_len {f : Int} (l m : List Tm) (h : 0 ≤ f) (hl : l.length ≠ m.length) : sameT (.mk f l) (.mk f m) = false := by
  rw [Bool.eq_false_iff, ne_eq, sameT_iff, strip_sym _ h, strip_sym _ h]
  intro e
  exact hl (by simpa using congrArg (fun t => t.l.length) e)
end Go.Proofs.Ytgmllfjidhbjjaa

namespace Go.Proofs.Ytgmllfjidhbjjaa
open Go.RowKit
set_option linter.unusedVariables false
set_option linter.unusedSimpArgs false
set_option maxRecDepth 100000

theorem same_f {a b : Tm} (h : sameT a b = true) : a.f = b.f := by
  have := (sameT_iff a b).1 h
  rw [← Tm.strip_f, this, Tm.strip_f]
theorem same_fne {a b : Tm} (h : a.f ≠ b.f) : sameT a b = false := by
  cases hs : sameT a b with
  | false => rfl
  | true => exact absurd (same_f hs) h
theorem same_neg {a b : Tm} (h : a.f = b.f) (hf : a.f < 0) : sameT a b = true := by
  rw [sameT_iff, Tm.strip_eq, Tm.strip_eq, Tm.ps_of_var hf, Tm.ps_of_var (by omega), h]
theorem same_sym {a b : Tm} (h : a.f = b.f) (hf : ¬ a.f < 0) : sameT a b = true ↔ a.l.map Tm.strip = b.l.map Tm.strip := by
  rw [sameT_iff, Tm.strip_eq, Tm.strip_eq, Tm.ps_of_sym (by omega), Tm.ps_of_sym (by omega), h]
  simp
theorem same_lne {a b : Tm} (hf : ¬ a.f < 0) (hl : a.l.length ≠ b.l.length) : sameT a b = false := by
  cases hs : sameT a b with
  | false => rfl
  | true =>
    have := congrArg List.length ((same_sym (same_f hs) hf).1 hs)
    simp at this
    exact absurd this hl
theorem same_at {a b : Tm} (hf : ¬ a.f < 0) {i : Nat} {x y : Tm} (hx : a.l[i]? = some x) (hy : b.l[i]? = some y) (h : sameT x y = false) : sameT a b = false := by
  cases hs : sameT a b with
  | false => rfl
  | true =>
    have := congrArg (fun l => l[i]?) ((same_sym (same_f hs) hf).1 hs)
    simp only [List.getElem?_map, hx, hy, Option.map_some, Option.some.injEq] at this
    rw [(sameT_iff x y).2 this] at h
    cases h
theorem same_all {a b : Tm} (h : a.f = b.f) (hf : ¬ a.f < 0) (hl : a.l.length = b.l.length) (hi : ∀ i x y, i < a.l.length → a.l[i]? = some x → b.l[i]? = some y → sameT x y = true) : sameT a b = true := by
  rw [same_sym h hf]
  apply List.ext_getElem?
  intro i
  rw [List.getElem?_map, List.getElem?_map]
  by_cases hil : i < a.l.length
  · have hx := List.getElem?_eq_getElem hil
    have hy := List.getElem?_eq_getElem (l := b.l) (i := i) (by omega)
    rw [hx, hy]
    exact congrArg some ((sameT_iff _ _).1 (hi i _ _ hil hx hy))
  · rw [List.getElem?_eq_none (by omega), List.getElem?_eq_none (by omega)]

-- 
set_option maxHeartbeats 1000000 in
theorem refSame_abs (W : World) : ∀ (a b : Tm), a.ok → b.ok → AFun Try.prog W 40 [a.cw, b.cw] (.val (.b (sameT a b))) := by
  intro a
  induction a using Tm.ind with
  | h f l ih =>
  intro b hoa hob
  obtain ⟨hla, hoa⟩ := (Tm.ok_iff _).1 hoa
  obtain ⟨hlb, hob⟩ := (Tm.ok_iff _).1 hob
  simp only at hla hoa
  have hsz := Tm.size_all l
  have hsz2 := Tm.size_all b.l
  refine afun_of (rs := [.b (sameT ⟨f, l⟩ b)]) Try.func40 Try.ntmps40 rfl rfl rfl rfl ?_
  intro w U hW
  refine awp_seq (awp_region ?_)
  (refine ⟨_, _, _, a_box (gd_none rfl) rfl rfl rfl rfl rfl, (by first | rfl | kernel_rfl), ?_⟩)
  (refine ⟨_, _, _, a_box (gd_none rfl) rfl rfl rfl rfl rfl, (by first | rfl | kernel_rfl), ?_⟩)
  (refine ⟨_, _, _, a_assign (gd_none rfl) rfl rfl rfl rfl rfl, (by first | rfl | kernel_rfl), ?_⟩)
  show AWp _ _ _ _ _ _ _
  refine awp_seq (awp_seq (awp_region ?_))
  (first | (refine ⟨_, _, _, a_field_bp (gd_none rfl) rfl rfl rfl rfl rfl rfl rfl rfl rfl, (by first | rfl | kernel_rfl), ?_⟩) | (refine ⟨_, _, _, a_field_ad (gd_none rfl) rfl rfl rfl rfl rfl rfl rfl rfl rfl rfl rfl, (by first | rfl | kernel_rfl), ?_⟩) | (refine ⟨_, _, _, a_fieldM (gd_none rfl) rfl rfl rfl rfl rfl rfl rfl rfl rfl, (by first | rfl | kernel_rfl), ?_⟩))
  (first | (refine ⟨_, _, _, a_load_all (gd_none rfl) rfl rfl rfl rfl rfl rfl rfl rfl rfl rfl rfl rfl, (by first | rfl | kernel_rfl), ?_⟩) | (refine ⟨_, _, _, a_load_tok (gd_none rfl) rfl rfl rfl rfl rfl rfl rfl rfl rfl rfl rfl rfl rfl, (by first | rfl | kernel_rfl), ?_⟩) | (refine ⟨_, _, _, a_load_bp (gd_none rfl) rfl rfl rfl rfl rfl rfl rfl rfl rfl rfl rfl rfl, (by first | rfl | kernel_rfl), ?_⟩) | (refine ⟨_, _, _, a_load_ad (gd_none rfl) rfl rfl rfl rfl rfl rfl rfl rfl rfl, (by first | rfl | kernel_rfl), ?_⟩) | (refine ⟨_, _, _, a_load_ptr (gd_none rfl) rfl rfl rfl rfl rfl rfl rfl rfl rfl, (by first | rfl | kernel_rfl), ?_⟩) | (refine ⟨_, _, _, a_load_fld (gd_none rfl) rfl rfl rfl rfl rfl rfl rfl rfl rfl rfl rfl rfl rfl, (by first | rfl | kernel_rfl), ?_⟩) | (refine ⟨_, _, _, a_load_fullv (gd_none rfl) rfl rfl rfl rfl rfl rfl rfl rfl rfl, (by first | rfl | kernel_rfl), ?_⟩))
  (first | (refine ⟨_, _, _, a_field_bp (gd_none rfl) rfl rfl rfl rfl rfl rfl rfl rfl rfl, (by first | rfl | kernel_rfl), ?_⟩) | (refine ⟨_, _, _, a_field_ad (gd_none rfl) rfl rfl rfl rfl rfl rfl rfl rfl rfl rfl rfl, (by first | rfl | kernel_rfl), ?_⟩) | (refine ⟨_, _, _, a_fieldM (gd_none rfl) rfl rfl rfl rfl rfl rfl rfl rfl rfl, (by first | rfl | kernel_rfl), ?_⟩))
  (first | (refine ⟨_, _, _, a_load_all (gd_none rfl) rfl rfl rfl rfl rfl rfl rfl rfl rfl rfl rfl rfl, (by first | rfl | kernel_rfl), ?_⟩) | (refine ⟨_, _, _, a_load_tok (gd_none rfl) rfl rfl rfl rfl rfl rfl rfl rfl rfl rfl rfl rfl rfl, (by first | rfl | kernel_rfl), ?_⟩) | (refine ⟨_, _, _, a_load_bp (gd_none rfl) rfl rfl rfl rfl rfl rfl rfl rfl rfl rfl rfl rfl, (by first | rfl | kernel_rfl), ?_⟩) | (refine ⟨_, _, _, a_load_ad (gd_none rfl) rfl rfl rfl rfl rfl rfl rfl rfl rfl, (by first | rfl | kernel_rfl), ?_⟩) | (refine ⟨_, _, _, a_load_ptr (gd_none rfl) rfl rfl rfl rfl rfl rfl rfl rfl rfl, (by first | rfl | kernel_rfl), ?_⟩) | (refine ⟨_, _, _, a_load_fld (gd_none rfl) rfl rfl rfl rfl rfl rfl rfl rfl rfl rfl rfl rfl rfl, (by first | rfl | kernel_rfl), ?_⟩) | (refine ⟨_, _, _, a_load_fullv (gd_none rfl) rfl rfl rfl rfl rfl rfl rfl rfl rfl, (by first | rfl | kernel_rfl), ?_⟩))
  (first | (refine ⟨_, _, _, a_neq (gd_none rfl) rfl rfl rfl rfl rfl rfl, (by first | rfl | kernel_rfl), ?_⟩) | (refine ⟨_, _, _, a_bne (gd_none rfl) rfl rfl rfl rfl rfl rfl rfl, (by first | rfl | kernel_rfl), ?_⟩))
  show AWp _ _ _ _ _ _ _
  refine awp_cond rfl (fun hc => ?_) (fun hc => awp_skip ?_)
  · have hne : f ≠ b.f := by simpa using hc
    rw [same_fne (a := ⟨f, l⟩) hne]
    refine awp_seq (awp_region ?_)
    (refine ⟨_, _, _, a_assign (gd_none rfl) rfl rfl rfl rfl rfl, (by first | rfl | kernel_rfl), ?_⟩)
    show AWp _ _ _ _ _ _ _
    exact awp_ret (And.intro (.inr rfl) rfl)
  have hfe : f = b.f := by simpa using hc
  clear hc
  show AWp _ _ _ _ _ _ _
  refine awp_seq (awp_seq (awp_region ?_))
  (first | (refine ⟨_, _, _, a_field_bp (gd_none rfl) rfl rfl rfl rfl rfl rfl rfl rfl rfl, (by first | rfl | kernel_rfl), ?_⟩) | (refine ⟨_, _, _, a_field_ad (gd_none rfl) rfl rfl rfl rfl rfl rfl rfl rfl rfl rfl rfl, (by first | rfl | kernel_rfl), ?_⟩) | (refine ⟨_, _, _, a_fieldM (gd_none rfl) rfl rfl rfl rfl rfl rfl rfl rfl rfl, (by first | rfl | kernel_rfl), ?_⟩))
  (first | (refine ⟨_, _, _, a_load_all (gd_none rfl) rfl rfl rfl rfl rfl rfl rfl rfl rfl rfl rfl rfl, (by first | rfl | kernel_rfl), ?_⟩) | (refine ⟨_, _, _, a_load_tok (gd_none rfl) rfl rfl rfl rfl rfl rfl rfl rfl rfl rfl rfl rfl rfl, (by first | rfl | kernel_rfl), ?_⟩) | (refine ⟨_, _, _, a_load_bp (gd_none rfl) rfl rfl rfl rfl rfl rfl rfl rfl rfl rfl rfl rfl, (by first | rfl | kernel_rfl), ?_⟩) | (refine ⟨_, _, _, a_load_ad (gd_none rfl) rfl rfl rfl rfl rfl rfl rfl rfl rfl, (by first | rfl | kernel_rfl), ?_⟩) | (refine ⟨_, _, _, a_load_ptr (gd_none rfl) rfl rfl rfl rfl rfl rfl rfl rfl rfl, (by first | rfl | kernel_rfl), ?_⟩) | (refine ⟨_, _, _, a_load_fld (gd_none rfl) rfl rfl rfl rfl rfl rfl rfl rfl rfl rfl rfl rfl rfl, (by first | rfl | kernel_rfl), ?_⟩) | (refine ⟨_, _, _, a_load_fullv (gd_none rfl) rfl rfl rfl rfl rfl rfl rfl rfl rfl, (by first | rfl | kernel_rfl), ?_⟩))
  (refine ⟨_, _, _, a_lss (gd_none rfl) rfl rfl rfl rfl rfl rfl, (by first | rfl | kernel_rfl), ?_⟩)
  show AWp _ _ _ _ _ _ _
  refine awp_cond rfl (fun hc => ?_) (fun hc => awp_skip ?_)
  · have hneg : f < 0 := by simpa using hc
    rw [same_neg (a := ⟨f, l⟩) hfe hneg]
    refine awp_seq (awp_region ?_)
    (refine ⟨_, _, _, a_assign (gd_none rfl) rfl rfl rfl rfl rfl, (by first | rfl | kernel_rfl), ?_⟩)
    show AWp _ _ _ _ _ _ _
    exact awp_ret (And.intro (.inr rfl) rfl)
  have hnn : ¬ f < 0 := by simpa using hc
  clear hc
  show AWp _ _ _ _ _ _ _
  refine awp_seq (awp_seq (awp_region ?_))
  (first | (refine ⟨_, _, _, a_field_bp (gd_none rfl) rfl rfl rfl rfl rfl rfl rfl rfl rfl, (by first | rfl | kernel_rfl), ?_⟩) | (refine ⟨_, _, _, a_field_ad (gd_none rfl) rfl rfl rfl rfl rfl rfl rfl rfl rfl rfl rfl, (by first | rfl | kernel_rfl), ?_⟩) | (refine ⟨_, _, _, a_fieldM (gd_none rfl) rfl rfl rfl rfl rfl rfl rfl rfl rfl, (by first | rfl | kernel_rfl), ?_⟩))
  (first | (refine ⟨_, _, _, a_load_all (gd_none rfl) rfl rfl rfl rfl rfl rfl rfl rfl rfl rfl rfl rfl, (by first | rfl | kernel_rfl), ?_⟩) | (refine ⟨_, _, _, a_load_tok (gd_none rfl) rfl rfl rfl rfl rfl rfl rfl rfl rfl rfl rfl rfl rfl, (by first | rfl | kernel_rfl), ?_⟩) | (refine ⟨_, _, _, a_load_bp (gd_none rfl) rfl rfl rfl rfl rfl rfl rfl rfl rfl rfl rfl rfl, (by first | rfl | kernel_rfl), ?_⟩) | (refine ⟨_, _, _, a_load_ad (gd_none rfl) rfl rfl rfl rfl rfl rfl rfl rfl rfl, (by first | rfl | kernel_rfl), ?_⟩) | (refine ⟨_, _, _, a_load_ptr (gd_none rfl) rfl rfl rfl rfl rfl rfl rfl rfl rfl, (by first | rfl | kernel_rfl), ?_⟩) | (refine ⟨_, _, _, a_load_fld (gd_none rfl) rfl rfl rfl rfl rfl rfl rfl rfl rfl rfl rfl rfl rfl, (by first | rfl | kernel_rfl), ?_⟩) | (refine ⟨_, _, _, a_load_fullv (gd_none rfl) rfl rfl rfl rfl rfl rfl rfl rfl rfl, (by first | rfl | kernel_rfl), ?_⟩))
  (first | (refine ⟨_, _, _, a_len (gd_none rfl) rfl rfl rfl rfl rfl rfl rfl, (by first | rfl | kernel_rfl), ?_⟩) | (refine ⟨_, _, _, a_lenM (gd_none rfl) rfl rfl rfl rfl rfl rfl rfl, (by first | rfl | kernel_rfl), ?_⟩))
  (first | (refine ⟨_, _, _, a_field_bp (gd_none rfl) rfl rfl rfl rfl rfl rfl rfl rfl rfl, (by first | rfl | kernel_rfl), ?_⟩) | (refine ⟨_, _, _, a_field_ad (gd_none rfl) rfl rfl rfl rfl rfl rfl rfl rfl rfl rfl rfl, (by first | rfl | kernel_rfl), ?_⟩) | (refine ⟨_, _, _, a_fieldM (gd_none rfl) rfl rfl rfl rfl rfl rfl rfl rfl rfl, (by first | rfl | kernel_rfl), ?_⟩))
  (first | (refine ⟨_, _, _, a_load_all (gd_none rfl) rfl rfl rfl rfl rfl rfl rfl rfl rfl rfl rfl rfl, (by first | rfl | kernel_rfl), ?_⟩) | (refine ⟨_, _, _, a_load_tok (gd_none rfl) rfl rfl rfl rfl rfl rfl rfl rfl rfl rfl rfl rfl rfl, (by first | rfl | kernel_rfl), ?_⟩) | (refine ⟨_, _, _, a_load_bp (gd_none rfl) rfl rfl rfl rfl rfl rfl rfl rfl rfl rfl rfl rfl, (by first | rfl | kernel_rfl), ?_⟩) | (refine ⟨_, _, _, a_load_ad (gd_none rfl) rfl rfl rfl rfl rfl rfl rfl rfl rfl, (by first | rfl | kernel_rfl), ?_⟩) | (refine ⟨_, _, _, a_load_ptr (gd_none rfl) rfl rfl rfl rfl rfl rfl rfl rfl rfl, (by first | rfl | kernel_rfl), ?_⟩) | (refine ⟨_, _, _, a_load_fld (gd_none rfl) rfl rfl rfl rfl rfl rfl rfl rfl rfl rfl rfl rfl rfl, (by first | rfl | kernel_rfl), ?_⟩) | (refine ⟨_, _, _, a_load_fullv (gd_none rfl) rfl rfl rfl rfl rfl rfl rfl rfl rfl, (by first | rfl | kernel_rfl), ?_⟩))
  (first | (refine ⟨_, _, _, a_len (gd_none rfl) rfl rfl rfl rfl rfl rfl rfl, (by first | rfl | kernel_rfl), ?_⟩) | (refine ⟨_, _, _, a_lenM (gd_none rfl) rfl rfl rfl rfl rfl rfl rfl, (by first | rfl | kernel_rfl), ?_⟩))
  (first | (refine ⟨_, _, _, a_neq (gd_none rfl) rfl rfl rfl rfl rfl rfl, (by first | rfl | kernel_rfl), ?_⟩) | (refine ⟨_, _, _, a_bne (gd_none rfl) rfl rfl rfl rfl rfl rfl rfl, (by first | rfl | kernel_rfl), ?_⟩))
  show AWp _ _ _ _ _ _ _
  refine awp_cond rfl (fun hc => ?_) (fun hc => awp_skip ?_)
  · have hne : l.length ≠ b.l.length := by
      simp only [List.length_map, decide_eq_true_eq] at hc
      omega
    rw [same_lne (a := ⟨f, l⟩) hnn hne]
    refine awp_seq (awp_region ?_)
    (refine ⟨_, _, _, a_assign (gd_none rfl) rfl rfl rfl rfl rfl, (by first | rfl | kernel_rfl), ?_⟩)
    show AWp _ _ _ _ _ _ _
    exact awp_ret (And.intro (.inr rfl) rfl)
  have hle : l.length = b.l.length := by
    simp only [List.length_map, decide_eq_false_iff_not, ne_eq, Decidable.not_not] at hc
    omega
  clear hc
  show AWp _ _ _ _ _ _ _
  refine awp_seq (awp_seq (awp_region ?_))
  (refine ⟨_, _, _, a_assign (gd_none rfl) rfl rfl rfl rfl rfl, (by first | rfl | kernel_rfl), ?_⟩)
  show AWp _ _ _ _ _ _ _
  refine awp_block (awp_countI l.length (fun k => ∀ i x y, i < k → l[i]? = some x → b.l[i]? = some y → sameT x y = true) (fun k => [(2, .bp 2 0 []), (100002, .bx (Tm.cw ⟨f, l⟩)), (3, .bp 3 0 []), (100003, .bx b.cw), (5, .val (.i k))]) (wk_sub ⟨rfl, rfl, rfl, rfl, rfl, trivial⟩) (by omega) ?_)
  intro k hk hI
  refine awp_seq (awp_seq (awp_region ?_))
  (refine ⟨_, _, _, a_move (gd_none rfl) rfl rfl rfl rfl rfl, (by first | rfl | kernel_rfl), ?_⟩)
  (first | (refine ⟨_, _, _, a_field_bp (gd_none rfl) rfl rfl rfl rfl rfl rfl rfl rfl rfl, (by first | rfl | kernel_rfl), ?_⟩) | (refine ⟨_, _, _, a_field_ad (gd_none rfl) rfl rfl rfl rfl rfl rfl rfl rfl rfl rfl rfl, (by first | rfl | kernel_rfl), ?_⟩) | (refine ⟨_, _, _, a_fieldM (gd_none rfl) rfl rfl rfl rfl rfl rfl rfl rfl rfl, (by first | rfl | kernel_rfl), ?_⟩))
  (first | (refine ⟨_, _, _, a_load_all (gd_none rfl) rfl rfl rfl rfl rfl rfl rfl rfl rfl rfl rfl rfl, (by first | rfl | kernel_rfl), ?_⟩) | (refine ⟨_, _, _, a_load_tok (gd_none rfl) rfl rfl rfl rfl rfl rfl rfl rfl rfl rfl rfl rfl rfl, (by first | rfl | kernel_rfl), ?_⟩) | (refine ⟨_, _, _, a_load_bp (gd_none rfl) rfl rfl rfl rfl rfl rfl rfl rfl rfl rfl rfl rfl, (by first | rfl | kernel_rfl), ?_⟩) | (refine ⟨_, _, _, a_load_ad (gd_none rfl) rfl rfl rfl rfl rfl rfl rfl rfl rfl, (by first | rfl | kernel_rfl), ?_⟩) | (refine ⟨_, _, _, a_load_ptr (gd_none rfl) rfl rfl rfl rfl rfl rfl rfl rfl rfl, (by first | rfl | kernel_rfl), ?_⟩) | (refine ⟨_, _, _, a_load_fld (gd_none rfl) rfl rfl rfl rfl rfl rfl rfl rfl rfl rfl rfl rfl rfl, (by first | rfl | kernel_rfl), ?_⟩) | (refine ⟨_, _, _, a_load_fullv (gd_none rfl) rfl rfl rfl rfl rfl rfl rfl rfl rfl, (by first | rfl | kernel_rfl), ?_⟩))
  (first | (refine ⟨_, _, _, a_len (gd_none rfl) rfl rfl rfl rfl rfl rfl rfl, (by first | rfl | kernel_rfl), ?_⟩) | (refine ⟨_, _, _, a_lenM (gd_none rfl) rfl rfl rfl rfl rfl rfl rfl, (by first | rfl | kernel_rfl), ?_⟩))
  (refine ⟨_, _, _, a_lss (gd_none rfl) rfl rfl rfl rfl rfl rfl, (by first | rfl | kernel_rfl), ?_⟩)
  show AWp _ _ _ _ _ _ _
  refine awp_cond rfl (fun hc => awp_skip ?_) (fun hc => awp_exit ?_)
  · have hkl : k < l.length := by
      simp only [List.length_map, decide_eq_true_eq] at hc
      omega
    clear hc
    obtain ⟨x, hx⟩ : ∃ x, l[k]? = some x := ⟨l[k], List.getElem?_eq_getElem hkl⟩
    obtain ⟨y, hy⟩ : ∃ y, b.l[k]? = some y := ⟨b.l[k]'(by omega), List.getElem?_eq_getElem (by omega)⟩
    have hx' := Tm.map_at hx
    have hy' := Tm.map_at hy
    have hxm := List.mem_of_getElem? hx
    have hym := List.mem_of_getElem? hy
    show AWp _ _ _ _ _ _ _
    refine awp_seq (awp_block (awp_seq (awp_draw (by kernel_rfl) (by kernel_rfl) ?_)))
    (first | (refine ⟨_, _, _, a_field_bp (gd_none rfl) rfl rfl rfl rfl rfl rfl rfl rfl rfl, (by first | rfl | kernel_rfl), ?_⟩) | (refine ⟨_, _, _, a_field_ad (gd_none rfl) rfl rfl rfl rfl rfl rfl rfl rfl rfl rfl rfl, (by first | rfl | kernel_rfl), ?_⟩) | (refine ⟨_, _, _, a_fieldM (gd_none rfl) rfl rfl rfl rfl rfl rfl rfl rfl rfl, (by first | rfl | kernel_rfl), ?_⟩))
    (first | (refine ⟨_, _, _, a_load_all (gd_none rfl) rfl rfl rfl rfl rfl rfl rfl rfl rfl rfl rfl rfl, (by first | rfl | kernel_rfl), ?_⟩) | (refine ⟨_, _, _, a_load_tok (gd_none rfl) rfl rfl rfl rfl rfl rfl rfl rfl rfl rfl rfl rfl rfl, (by first | rfl | kernel_rfl), ?_⟩) | (refine ⟨_, _, _, a_load_bp (gd_none rfl) rfl rfl rfl rfl rfl rfl rfl rfl rfl rfl rfl rfl, (by first | rfl | kernel_rfl), ?_⟩) | (refine ⟨_, _, _, a_load_ad (gd_none rfl) rfl rfl rfl rfl rfl rfl rfl rfl rfl, (by first | rfl | kernel_rfl), ?_⟩) | (refine ⟨_, _, _, a_load_ptr (gd_none rfl) rfl rfl rfl rfl rfl rfl rfl rfl rfl, (by first | rfl | kernel_rfl), ?_⟩) | (refine ⟨_, _, _, a_load_fld (gd_none rfl) rfl rfl rfl rfl rfl rfl rfl rfl rfl rfl rfl rfl rfl, (by first | rfl | kernel_rfl), ?_⟩) | (refine ⟨_, _, _, a_load_fullv (gd_none rfl) rfl rfl rfl rfl rfl rfl rfl rfl rfl, (by first | rfl | kernel_rfl), ?_⟩))
    (refine ⟨_, _, _, a_move (gd_none rfl) rfl rfl rfl rfl rfl, (by first | rfl | kernel_rfl), ?_⟩)
    (refine ⟨_, _, _, a_index (gd_none rfl) rfl rfl rfl rfl rfl rfl rfl rfl rfl (by assumption) rfl (by first | assumption | exact szAll_spec rfl | exact Tm.size_all _ | exact Bd.size_all _ | exact ints_size _), (by first | rfl | kernel_rfl), ?_⟩)
    (first | (refine ⟨_, _, _, a_load_all (gd_none rfl) rfl rfl rfl rfl rfl rfl rfl rfl rfl rfl rfl rfl, (by first | rfl | kernel_rfl), ?_⟩) | (refine ⟨_, _, _, a_load_tok (gd_none rfl) rfl rfl rfl rfl rfl rfl rfl rfl rfl rfl rfl rfl rfl, (by first | rfl | kernel_rfl), ?_⟩) | (refine ⟨_, _, _, a_load_bp (gd_none rfl) rfl rfl rfl rfl rfl rfl rfl rfl rfl rfl rfl rfl, (by first | rfl | kernel_rfl), ?_⟩) | (refine ⟨_, _, _, a_load_ad (gd_none rfl) rfl rfl rfl rfl rfl rfl rfl rfl rfl, (by first | rfl | kernel_rfl), ?_⟩) | (refine ⟨_, _, _, a_load_ptr (gd_none rfl) rfl rfl rfl rfl rfl rfl rfl rfl rfl, (by first | rfl | kernel_rfl), ?_⟩) | (refine ⟨_, _, _, a_load_fld (gd_none rfl) rfl rfl rfl rfl rfl rfl rfl rfl rfl rfl rfl rfl rfl, (by first | rfl | kernel_rfl), ?_⟩) | (refine ⟨_, _, _, a_load_fullv (gd_none rfl) rfl rfl rfl rfl rfl rfl rfl rfl rfl, (by first | rfl | kernel_rfl), ?_⟩))
    (first | (refine ⟨_, _, _, a_field_bp (gd_none rfl) rfl rfl rfl rfl rfl rfl rfl rfl rfl, (by first | rfl | kernel_rfl), ?_⟩) | (refine ⟨_, _, _, a_field_ad (gd_none rfl) rfl rfl rfl rfl rfl rfl rfl rfl rfl rfl rfl, (by first | rfl | kernel_rfl), ?_⟩) | (refine ⟨_, _, _, a_fieldM (gd_none rfl) rfl rfl rfl rfl rfl rfl rfl rfl rfl, (by first | rfl | kernel_rfl), ?_⟩))
    (first | (refine ⟨_, _, _, a_load_all (gd_none rfl) rfl rfl rfl rfl rfl rfl rfl rfl rfl rfl rfl rfl, (by first | rfl | kernel_rfl), ?_⟩) | (refine ⟨_, _, _, a_load_tok (gd_none rfl) rfl rfl rfl rfl rfl rfl rfl rfl rfl rfl rfl rfl rfl, (by first | rfl | kernel_rfl), ?_⟩) | (refine ⟨_, _, _, a_load_bp (gd_none rfl) rfl rfl rfl rfl rfl rfl rfl rfl rfl rfl rfl rfl, (by first | rfl | kernel_rfl), ?_⟩) | (refine ⟨_, _, _, a_load_ad (gd_none rfl) rfl rfl rfl rfl rfl rfl rfl rfl rfl, (by first | rfl | kernel_rfl), ?_⟩) | (refine ⟨_, _, _, a_load_ptr (gd_none rfl) rfl rfl rfl rfl rfl rfl rfl rfl rfl, (by first | rfl | kernel_rfl), ?_⟩) | (refine ⟨_, _, _, a_load_fld (gd_none rfl) rfl rfl rfl rfl rfl rfl rfl rfl rfl rfl rfl rfl rfl, (by first | rfl | kernel_rfl), ?_⟩) | (refine ⟨_, _, _, a_load_fullv (gd_none rfl) rfl rfl rfl rfl rfl rfl rfl rfl rfl, (by first | rfl | kernel_rfl), ?_⟩))
    (refine ⟨_, _, _, a_move (gd_none rfl) rfl rfl rfl rfl rfl, (by first | rfl | kernel_rfl), ?_⟩)
    (refine ⟨_, _, _, a_index (gd_none rfl) rfl rfl rfl rfl rfl rfl rfl rfl rfl (by assumption) rfl (by first | assumption | exact szAll_spec rfl | exact Tm.size_all _ | exact Bd.size_all _ | exact ints_size _), (by first | rfl | kernel_rfl), ?_⟩)
    (first | (refine ⟨_, _, _, a_load_all (gd_none rfl) rfl rfl rfl rfl rfl rfl rfl rfl rfl rfl rfl rfl, (by first | rfl | kernel_rfl), ?_⟩) | (refine ⟨_, _, _, a_load_tok (gd_none rfl) rfl rfl rfl rfl rfl rfl rfl rfl rfl rfl rfl rfl rfl, (by first | rfl | kernel_rfl), ?_⟩) | (refine ⟨_, _, _, a_load_bp (gd_none rfl) rfl rfl rfl rfl rfl rfl rfl rfl rfl rfl rfl rfl, (by first | rfl | kernel_rfl), ?_⟩) | (refine ⟨_, _, _, a_load_ad (gd_none rfl) rfl rfl rfl rfl rfl rfl rfl rfl rfl, (by first | rfl | kernel_rfl), ?_⟩) | (refine ⟨_, _, _, a_load_ptr (gd_none rfl) rfl rfl rfl rfl rfl rfl rfl rfl rfl, (by first | rfl | kernel_rfl), ?_⟩) | (refine ⟨_, _, _, a_load_fld (gd_none rfl) rfl rfl rfl rfl rfl rfl rfl rfl rfl rfl rfl rfl rfl, (by first | rfl | kernel_rfl), ?_⟩) | (refine ⟨_, _, _, a_load_fullv (gd_none rfl) rfl rfl rfl rfl rfl rfl rfl rfl rfl, (by first | rfl | kernel_rfl), ?_⟩))
    (refine ⟨_, _, _, a_call (gd_none rfl) rfl rfl rfl rfl rfl ((ih x hxm y (hoa x hxm) (hob y hym)).up hW), (by first | rfl | kernel_rfl), ?_⟩)
    (refine ⟨_, _, _, a_not (gd_none rfl) rfl rfl rfl rfl rfl, (by first | rfl | kernel_rfl), ?_⟩)
    refine ⟨by kernel_rfl, ?_⟩
    show AWp _ _ _ _ _ _ _
    refine awp_cond rfl (fun hc => ?_) (fun hc => awp_skip ?_)
    · have hs : sameT x y = false := by simpa using hc
      rw [same_at (a := ⟨f, l⟩) hnn hx hy hs]
      refine awp_seq (awp_region ?_)
      (refine ⟨_, _, _, a_assign (gd_none rfl) rfl rfl rfl rfl rfl, (by first | rfl | kernel_rfl), ?_⟩)
      show AWp _ _ _ _ _ _ _
      exact awp_ret (And.intro (.inr rfl) rfl)
    have hs : sameT x y = true := by simpa using hc
    clear hc
    show AWp _ _ _ _ _ _ _
    refine awp_region ?_
    (refine ⟨_, _, _, a_move (gd_none rfl) rfl rfl rfl rfl rfl, (by first | rfl | kernel_rfl), ?_⟩)
    (refine ⟨_, _, _, a_add (gd_none rfl) rfl rfl rfl rfl rfl rfl (by first | omega | (simp only [List.length_map, List.length_append, List.length_cons, List.length_nil] <;> omega) | (simp <;> omega)), (by first | rfl | kernel_rfl), ?_⟩)
    (refine ⟨_, _, _, a_assign (gd_none rfl) rfl rfl rfl rfl rfl, (by first | rfl | kernel_rfl), ?_⟩)
    refine ⟨hkl, fun i x' y' hi h1 h2 => ?_, wk_sub ⟨rfl, rfl, rfl, rfl, rfl, trivial⟩⟩
    rcases Nat.lt_or_ge i k with h | h
    · exact hI i x' y' h h1 h2
    · obtain rfl : i = k := by omega
      rw [hx] at h1; rw [hy] at h2
      cases h1; cases h2
      exact hs
  · have hkl : k = l.length := by
      simp only [List.length_map, decide_eq_false_iff_not] at hc
      omega
    subst hkl
    rw [same_all (a := ⟨f, l⟩) hfe hnn hle hI]
    show AWp _ _ _ _ _ _ _
    refine awp_seq (awp_region ?_)
    (refine ⟨_, _, _, a_assign (gd_none rfl) rfl rfl rfl rfl rfl, (by first | rfl | kernel_rfl), ?_⟩)
    show AWp _ _ _ _ _ _ _
    exact awp_ret (And.intro (.inr rfl) rfl)
end Go.Proofs.Ytgmllfjidhbjjaa

namespace Go.Proofs.Ytgmllfjidhbjjaa
open Go.RowKit
set_option linter.unusedVariables false
set_option linter.unusedSimpArgs false
set_option maxRecDepth 100000

theorem cmp_same (a b : Tm) : sameT a b = true ↔ cmpT a b = 0 := by unfold sameT; rw [beq_iff_eq]
theorem cmpL_at : ∀ {l m : List Tm} {k : Nat} {x y : Tm}, l[k]? = some x → m[k]? = some y → (∀ i x y, i < k → l[i]? = some x → m[i]? = some y → cmpT x y = 0) → cmpT x y ≠ 0 → cmpL l m = cmpT x y
  | [], _, _, _, _, h, _, _, _ => by simp at h
  | _ :: _, [], _, _, _, _, h, _, _ => by simp at h
  | u :: l, v :: m, 0, x, y, h1, h2, _, hne => by
    simp at h1 h2; subst h1; subst h2
    rw [cmpL_cons, if_pos hne]
  | u :: l, v :: m, k + 1, x, y, h1, h2, h3, hne => by
    rw [cmpL_cons, if_neg (by rw [h3 0 u v (by omega) rfl rfl]; simp)]
    exact cmpL_at (k := k) (by simpa using h1) (by simpa using h2) (fun i x y hi a b => h3 (i + 1) x y (by omega) (by simpa using a) (by simpa using b)) hne
theorem cmp_fne {a b : Tm} (h : a.f ≠ b.f) : cmpT a b = cmpH a.f b.f := by rw [cmpT_eq, if_pos h]
theorem cmpH_val (x y : Int) : cmpH x y = if x < 0 ∧ y < 0 then cmpZ (-1 - x) (-1 - y) else cmpZ x y := by unfold cmpH; rfl
theorem cmpZ_lt (x y : Int) : cmpZ x y < 0 ↔ x < y := by
  unfold cmpZ
  split
  · omega
  · split <;> omega

end Go.Proofs.Ytgmllfjidhbjjaa

namespace Go.Proofs.Ytgmllfjidhbjjaa
open Go.RowKit
set_option linter.unusedVariables false
set_option linter.unusedSimpArgs false
set_option maxRecDepth 100000

-- 
set_option maxHeartbeats 1000000 in
theorem to_abs (W : World) : ∀ (t : Tm), t.ok → AFun Try.prog W 41 [t.cw] (.val t.strip.cw) := by
  intro t
  induction t using Tm.ind with
  | h f l ih =>
  intro hok
  obtain ⟨hl, hok⟩ := (Tm.ok_iff _).1 hok
  simp only at hl hok
  have hsz := Tm.size_all l
  refine afun_of (rs := [(Tm.strip ⟨f, l⟩).cw]) Try.func41 Try.ntmps41 rfl rfl rfl rfl ?_
  intro w U hW
  refine awp_seq (awp_region ?_)
  (refine ⟨_, _, _, a_box (gd_none rfl) rfl rfl rfl rfl rfl, (by first | rfl | kernel_rfl), ?_⟩)
  (refine ⟨_, _, _, a_alloc (gd_none rfl) rfl rfl rfl rfl rfl rfl rfl rfl rfl rfl, (by first | rfl | kernel_rfl), ?_⟩)
  show AWp _ _ _ _ _ _ _
  refine awp_seq (awp_region ?_)
  (first | (refine ⟨_, _, _, a_field_bp (gd_none rfl) rfl rfl rfl rfl rfl rfl rfl rfl rfl, (by first | rfl | kernel_rfl), ?_⟩) | (refine ⟨_, _, _, a_field_ad (gd_none rfl) rfl rfl rfl rfl rfl rfl rfl rfl rfl rfl rfl, (by first | rfl | kernel_rfl), ?_⟩) | (refine ⟨_, _, _, a_fieldM (gd_none rfl) rfl rfl rfl rfl rfl rfl rfl rfl rfl, (by first | rfl | kernel_rfl), ?_⟩))
  (first | (refine ⟨_, _, _, a_load_all (gd_none rfl) rfl rfl rfl rfl rfl rfl rfl rfl rfl rfl rfl rfl, (by first | rfl | kernel_rfl), ?_⟩) | (refine ⟨_, _, _, a_load_tok (gd_none rfl) rfl rfl rfl rfl rfl rfl rfl rfl rfl rfl rfl rfl rfl, (by first | rfl | kernel_rfl), ?_⟩) | (refine ⟨_, _, _, a_load_bp (gd_none rfl) rfl rfl rfl rfl rfl rfl rfl rfl rfl rfl rfl rfl, (by first | rfl | kernel_rfl), ?_⟩) | (refine ⟨_, _, _, a_load_ad (gd_none rfl) rfl rfl rfl rfl rfl rfl rfl rfl rfl, (by first | rfl | kernel_rfl), ?_⟩) | (refine ⟨_, _, _, a_load_ptr (gd_none rfl) rfl rfl rfl rfl rfl rfl rfl rfl rfl, (by first | rfl | kernel_rfl), ?_⟩) | (refine ⟨_, _, _, a_load_fld (gd_none rfl) rfl rfl rfl rfl rfl rfl rfl rfl rfl rfl rfl rfl rfl, (by first | rfl | kernel_rfl), ?_⟩) | (refine ⟨_, _, _, a_load_fullv (gd_none rfl) rfl rfl rfl rfl rfl rfl rfl rfl rfl, (by first | rfl | kernel_rfl), ?_⟩))
  (refine ⟨_, _, _, a_build (gd_none rfl) rfl rfl rfl rfl rfl rfl rfl rfl rfl rfl rfl, (by first | rfl | kernel_rfl), ?_⟩)
  (refine ⟨_, _, _, a_alloc (gd_none rfl) rfl rfl rfl rfl rfl rfl rfl rfl rfl rfl, (by first | rfl | kernel_rfl), ?_⟩)
  (first | (refine ⟨_, _, _, a_store_all (gd_none rfl) rfl rfl rfl rfl rfl rfl rfl rfl rfl rfl, (by first | rfl | kernel_rfl), ?_⟩) | (refine ⟨_, _, _, a_store (gd_none rfl) rfl rfl rfl rfl rfl rfl rfl rfl rfl rfl, (by first | rfl | kernel_rfl), ?_⟩) | (refine ⟨_, _, _, a_store_fld (gd_none rfl) rfl rfl rfl rfl rfl rfl rfl rfl rfl rfl rfl rfl, (by first | rfl | kernel_rfl), ?_⟩))
  show AWp _ _ _ _ _ _ _
  refine awp_seq (awp_seq (awp_region ?_))
  (refine ⟨_, _, _, a_assign (gd_none rfl) rfl rfl rfl rfl rfl, (by first | rfl | kernel_rfl), ?_⟩)
  show AWp _ _ _ _ _ _ _
  by_cases hf : f < 0
  · have hg : decide (f ≥ 0) = false := by simpa using hf
    rw [show (Tm.strip ⟨f, l⟩) = ⟨f, []⟩ by rw [Tm.strip_eq, Tm.ps_of_var (t := ⟨f, l⟩) hf]; rfl]
    refine awp_block (awp_count 0 (fun k => [(1, .bp 1 0 []), (100001, .bx (Tm.cw ⟨f, l⟩)), (2, .bp 2 0 []), (100002, ⟨5, .row [.i 0, .lst []], 1, 0, [1]⟩), (3, .bp 3 0 []), (100003, ⟨5, .row [.i f, .lst []], 1, 0, [1]⟩), (4, .val (.i k))]) (wk_sub ⟨rfl, rfl, rfl, rfl, rfl, rfl, rfl, trivial⟩) ?_)
    intro k hk
    refine awp_seq (awp_seq (awp_region ?_))
    (first | (refine ⟨_, _, _, a_field_bp (gd_none rfl) rfl rfl rfl rfl rfl rfl rfl rfl rfl, (by first | rfl | kernel_rfl), ?_⟩) | (refine ⟨_, _, _, a_field_ad (gd_none rfl) rfl rfl rfl rfl rfl rfl rfl rfl rfl rfl rfl, (by first | rfl | kernel_rfl), ?_⟩) | (refine ⟨_, _, _, a_fieldM (gd_none rfl) rfl rfl rfl rfl rfl rfl rfl rfl rfl, (by first | rfl | kernel_rfl), ?_⟩))
    (first | (refine ⟨_, _, _, a_load_all (gd_none rfl) rfl rfl rfl rfl rfl rfl rfl rfl rfl rfl rfl rfl, (by first | rfl | kernel_rfl), ?_⟩) | (refine ⟨_, _, _, a_load_tok (gd_none rfl) rfl rfl rfl rfl rfl rfl rfl rfl rfl rfl rfl rfl rfl, (by first | rfl | kernel_rfl), ?_⟩) | (refine ⟨_, _, _, a_load_bp (gd_none rfl) rfl rfl rfl rfl rfl rfl rfl rfl rfl rfl rfl rfl, (by first | rfl | kernel_rfl), ?_⟩) | (refine ⟨_, _, _, a_load_ad (gd_none rfl) rfl rfl rfl rfl rfl rfl rfl rfl rfl, (by first | rfl | kernel_rfl), ?_⟩) | (refine ⟨_, _, _, a_load_ptr (gd_none rfl) rfl rfl rfl rfl rfl rfl rfl rfl rfl, (by first | rfl | kernel_rfl), ?_⟩) | (refine ⟨_, _, _, a_load_fld (gd_none rfl) rfl rfl rfl rfl rfl rfl rfl rfl rfl rfl rfl rfl rfl, (by first | rfl | kernel_rfl), ?_⟩) | (refine ⟨_, _, _, a_load_fullv (gd_none rfl) rfl rfl rfl rfl rfl rfl rfl rfl rfl, (by first | rfl | kernel_rfl), ?_⟩))
    (refine ⟨_, _, _, a_geq (gd_none rfl) rfl rfl rfl rfl rfl rfl, (by first | rfl | kernel_rfl), ?_⟩)
    (refine ⟨_, _, _, a_move (gd_none rfl) rfl rfl rfl rfl rfl, (by first | rfl | kernel_rfl), ?_⟩)
    (refine ⟨_, _, _, a_off (go_off rfl rfl rfl rfl (by first | rfl | assumption | (simp; done) | (simp [*]; done))) rfl rfl rfl, rfl, ?_⟩)
    (refine ⟨_, _, _, a_off (go_off rfl rfl rfl rfl (by first | rfl | assumption | (simp; done) | (simp [*]; done))) rfl rfl rfl, rfl, ?_⟩)
    (refine ⟨_, _, _, a_off (go_off rfl rfl rfl rfl (by first | rfl | assumption | (simp; done) | (simp [*]; done))) rfl rfl rfl, rfl, ?_⟩)
    (refine ⟨_, _, _, a_off (go_off rfl rfl rfl rfl (by first | rfl | assumption | (simp; done) | (simp [*]; done))) rfl rfl rfl, rfl, ?_⟩)
    (refine ⟨_, _, _, a_off (go_off rfl rfl rfl rfl (by first | rfl | assumption | (simp; done) | (simp [*]; done))) rfl rfl rfl, rfl, ?_⟩)
    (first | (refine ⟨_, _, _, a_pick_t (gd_none rfl) rfl rfl rfl rfl rfl ?hb rfl, rfl, ?_⟩; case hb => (first | rfl | assumption | (simp; done))) | (refine ⟨_, _, _, a_pick_f (gd_none rfl) rfl rfl rfl rfl rfl ?hb rfl, rfl, ?_⟩; case hb => (first | rfl | assumption | (simp; done))))
    show AWp _ _ _ _ _ _ _
    refine awp_cond rfl (fun hc => by cases hc) (fun hc => awp_exit ?_)
    show AWp _ _ _ _ _ _ _
    refine awp_seq (awp_region ?_)
    (first | (refine ⟨_, _, _, a_load_all (gd_none rfl) rfl rfl rfl rfl rfl rfl rfl rfl rfl rfl rfl rfl, (by first | rfl | kernel_rfl), ?_⟩) | (refine ⟨_, _, _, a_load_tok (gd_none rfl) rfl rfl rfl rfl rfl rfl rfl rfl rfl rfl rfl rfl rfl, (by first | rfl | kernel_rfl), ?_⟩) | (refine ⟨_, _, _, a_load_bp (gd_none rfl) rfl rfl rfl rfl rfl rfl rfl rfl rfl rfl rfl rfl, (by first | rfl | kernel_rfl), ?_⟩) | (refine ⟨_, _, _, a_load_ad (gd_none rfl) rfl rfl rfl rfl rfl rfl rfl rfl rfl, (by first | rfl | kernel_rfl), ?_⟩) | (refine ⟨_, _, _, a_load_ptr (gd_none rfl) rfl rfl rfl rfl rfl rfl rfl rfl rfl, (by first | rfl | kernel_rfl), ?_⟩) | (refine ⟨_, _, _, a_load_fld (gd_none rfl) rfl rfl rfl rfl rfl rfl rfl rfl rfl rfl rfl rfl rfl, (by first | rfl | kernel_rfl), ?_⟩) | (refine ⟨_, _, _, a_load_fullv (gd_none rfl) rfl rfl rfl rfl rfl rfl rfl rfl rfl, (by first | rfl | kernel_rfl), ?_⟩))
    (first | (refine ⟨_, _, _, a_store_all (gd_none rfl) rfl rfl rfl rfl rfl rfl rfl rfl rfl rfl, (by first | rfl | kernel_rfl), ?_⟩) | (refine ⟨_, _, _, a_store (gd_none rfl) rfl rfl rfl rfl rfl rfl rfl rfl rfl rfl, (by first | rfl | kernel_rfl), ?_⟩) | (refine ⟨_, _, _, a_store_fld (gd_none rfl) rfl rfl rfl rfl rfl rfl rfl rfl rfl rfl rfl rfl, (by first | rfl | kernel_rfl), ?_⟩))
    show AWp _ _ _ _ _ _ _
    exact awp_ret (And.intro (.inr rfl) rfl)
  have hg : decide (f ≥ 0) = true := by simp only [decide_eq_true_eq]; omega
  rw [show (Tm.strip ⟨f, l⟩) = ⟨f, l.map Tm.strip⟩ by rw [Tm.strip_eq, Tm.ps_of_sym (t := ⟨f, l⟩) (by show 0 ≤ f; omega)]]
  refine awp_block (awp_count l.length (fun k => [(1, .bp 1 0 []), (100001, .bx (Tm.cw ⟨f, l⟩)), (2, .bp 2 0 []), (100002, ⟨5, .row [.i 0, .lst []], 1, 0, [1]⟩), (3, .bp 3 0 []), (100003, ⟨5, .row [.i f, .lst (((l.take k).map Tm.strip).map Tm.cv)], 200029, 0, [1]⟩), (200029, .tok 24 2), (4, .val (.i k))])
    ((wk_nil 100003 200029 24 2 rfl rfl rfl rfl rfl rfl rfl).trans (wk_sub ⟨rfl, rfl, rfl, rfl, rfl, rfl, rfl, rfl, trivial⟩)) ?_)
  intro k hk
  refine awp_seq (awp_seq (awp_region ?_))
  (first | (refine ⟨_, _, _, a_field_bp (gd_none rfl) rfl rfl rfl rfl rfl rfl rfl rfl rfl, (by first | rfl | kernel_rfl), ?_⟩) | (refine ⟨_, _, _, a_field_ad (gd_none rfl) rfl rfl rfl rfl rfl rfl rfl rfl rfl rfl rfl, (by first | rfl | kernel_rfl), ?_⟩) | (refine ⟨_, _, _, a_fieldM (gd_none rfl) rfl rfl rfl rfl rfl rfl rfl rfl rfl, (by first | rfl | kernel_rfl), ?_⟩))
  (first | (refine ⟨_, _, _, a_load_all (gd_none rfl) rfl rfl rfl rfl rfl rfl rfl rfl rfl rfl rfl rfl, (by first | rfl | kernel_rfl), ?_⟩) | (refine ⟨_, _, _, a_load_tok (gd_none rfl) rfl rfl rfl rfl rfl rfl rfl rfl rfl rfl rfl rfl rfl, (by first | rfl | kernel_rfl), ?_⟩) | (refine ⟨_, _, _, a_load_bp (gd_none rfl) rfl rfl rfl rfl rfl rfl rfl rfl rfl rfl rfl rfl, (by first | rfl | kernel_rfl), ?_⟩) | (refine ⟨_, _, _, a_load_ad (gd_none rfl) rfl rfl rfl rfl rfl rfl rfl rfl rfl, (by first | rfl | kernel_rfl), ?_⟩) | (refine ⟨_, _, _, a_load_ptr (gd_none rfl) rfl rfl rfl rfl rfl rfl rfl rfl rfl, (by first | rfl | kernel_rfl), ?_⟩) | (refine ⟨_, _, _, a_load_fld (gd_none rfl) rfl rfl rfl rfl rfl rfl rfl rfl rfl rfl rfl rfl rfl, (by first | rfl | kernel_rfl), ?_⟩) | (refine ⟨_, _, _, a_load_fullv (gd_none rfl) rfl rfl rfl rfl rfl rfl rfl rfl rfl, (by first | rfl | kernel_rfl), ?_⟩))
  (refine ⟨_, _, _, a_geq (gd_none rfl) rfl rfl rfl rfl rfl rfl, (by first | rfl | kernel_rfl), ?_⟩)
  (refine ⟨_, _, _, a_move (gd_none rfl) rfl rfl rfl rfl rfl, (by first | rfl | kernel_rfl), ?_⟩)
  (refine ⟨_, _, _, a_move (gd_on rfl rfl rfl rfl (by first | rfl | assumption | (simp; done))) rfl rfl rfl rfl rfl, (by first | rfl | kernel_rfl), ?_⟩)
  (first | (refine ⟨_, _, _, a_field_bp (gd_on rfl rfl rfl rfl (by first | rfl | assumption | (simp; done))) rfl rfl rfl rfl rfl rfl rfl rfl rfl, (by first | rfl | kernel_rfl), ?_⟩) | (refine ⟨_, _, _, a_field_ad (gd_on rfl rfl rfl rfl (by first | rfl | assumption | (simp; done))) rfl rfl rfl rfl rfl rfl rfl rfl rfl rfl rfl, (by first | rfl | kernel_rfl), ?_⟩) | (refine ⟨_, _, _, a_fieldM (gd_on rfl rfl rfl rfl (by first | rfl | assumption | (simp; done))) rfl rfl rfl rfl rfl rfl rfl rfl rfl, (by first | rfl | kernel_rfl), ?_⟩))
  (first | (refine ⟨_, _, _, a_load_all (gd_on rfl rfl rfl rfl (by first | rfl | assumption | (simp; done))) rfl rfl rfl rfl rfl rfl rfl rfl rfl rfl rfl rfl, (by first | rfl | kernel_rfl), ?_⟩) | (refine ⟨_, _, _, a_load_tok (gd_on rfl rfl rfl rfl (by first | rfl | assumption | (simp; done))) rfl rfl rfl rfl rfl rfl rfl rfl rfl rfl rfl rfl rfl, (by first | rfl | kernel_rfl), ?_⟩) | (refine ⟨_, _, _, a_load_bp (gd_on rfl rfl rfl rfl (by first | rfl | assumption | (simp; done))) rfl rfl rfl rfl rfl rfl rfl rfl rfl rfl rfl rfl, (by first | rfl | kernel_rfl), ?_⟩) | (refine ⟨_, _, _, a_load_ad (gd_on rfl rfl rfl rfl (by first | rfl | assumption | (simp; done))) rfl rfl rfl rfl rfl rfl rfl rfl rfl, (by first | rfl | kernel_rfl), ?_⟩) | (refine ⟨_, _, _, a_load_ptr (gd_on rfl rfl rfl rfl (by first | rfl | assumption | (simp; done))) rfl rfl rfl rfl rfl rfl rfl rfl rfl, (by first | rfl | kernel_rfl), ?_⟩) | (refine ⟨_, _, _, a_load_fld (gd_on rfl rfl rfl rfl (by first | rfl | assumption | (simp; done))) rfl rfl rfl rfl rfl rfl rfl rfl rfl rfl rfl rfl rfl, (by first | rfl | kernel_rfl), ?_⟩) | (refine ⟨_, _, _, a_load_fullv (gd_on rfl rfl rfl rfl (by first | rfl | assumption | (simp; done))) rfl rfl rfl rfl rfl rfl rfl rfl rfl, (by first | rfl | kernel_rfl), ?_⟩))
  (first | (refine ⟨_, _, _, a_len (gd_on rfl rfl rfl rfl (by first | rfl | assumption | (simp; done))) rfl rfl rfl rfl rfl rfl rfl, (by first | rfl | kernel_rfl), ?_⟩) | (refine ⟨_, _, _, a_lenM (gd_on rfl rfl rfl rfl (by first | rfl | assumption | (simp; done))) rfl rfl rfl rfl rfl rfl rfl, (by first | rfl | kernel_rfl), ?_⟩))
  (refine ⟨_, _, _, a_lss (gd_on rfl rfl rfl rfl (by first | rfl | assumption | (simp; done))) rfl rfl rfl rfl rfl rfl, (by first | rfl | kernel_rfl), ?_⟩)
  (first | (refine ⟨_, _, _, a_pick_t (gd_none rfl) rfl rfl rfl rfl rfl ?hb rfl, rfl, ?_⟩; case hb => (first | rfl | assumption | (simp; done))) | (refine ⟨_, _, _, a_pick_f (gd_none rfl) rfl rfl rfl rfl rfl ?hb rfl, rfl, ?_⟩; case hb => (first | rfl | assumption | (simp; done))))
  show AWp _ _ _ _ _ _ _
  refine awp_cond rfl (fun hc => awp_skip ?_) (fun hc => awp_exit ?_)
  · have hkl : k < l.length := by
      simp only [List.length_map, decide_eq_true_eq] at hc
      omega
    clear hc
    obtain ⟨t, ht⟩ : ∃ t, l[k]? = some t := ⟨l[k], List.getElem?_eq_getElem hkl⟩
    have ht' := Tm.map_at ht
    have htm := List.mem_of_getElem? ht
    show AWp _ _ _ _ _ _ _
    refine awp_seq (awp_block (awp_draw (by kernel_rfl) (by kernel_rfl) ?_))
    (first | (refine ⟨_, _, _, a_field_bp (gd_none rfl) rfl rfl rfl rfl rfl rfl rfl rfl rfl, (by first | rfl | kernel_rfl), ?_⟩) | (refine ⟨_, _, _, a_field_ad (gd_none rfl) rfl rfl rfl rfl rfl rfl rfl rfl rfl rfl rfl, (by first | rfl | kernel_rfl), ?_⟩) | (refine ⟨_, _, _, a_fieldM (gd_none rfl) rfl rfl rfl rfl rfl rfl rfl rfl rfl, (by first | rfl | kernel_rfl), ?_⟩))
    (first | (refine ⟨_, _, _, a_load_all (gd_none rfl) rfl rfl rfl rfl rfl rfl rfl rfl rfl rfl rfl rfl, (by first | rfl | kernel_rfl), ?_⟩) | (refine ⟨_, _, _, a_load_tok (gd_none rfl) rfl rfl rfl rfl rfl rfl rfl rfl rfl rfl rfl rfl rfl, (by first | rfl | kernel_rfl), ?_⟩) | (refine ⟨_, _, _, a_load_bp (gd_none rfl) rfl rfl rfl rfl rfl rfl rfl rfl rfl rfl rfl rfl, (by first | rfl | kernel_rfl), ?_⟩) | (refine ⟨_, _, _, a_load_ad (gd_none rfl) rfl rfl rfl rfl rfl rfl rfl rfl rfl, (by first | rfl | kernel_rfl), ?_⟩) | (refine ⟨_, _, _, a_load_ptr (gd_none rfl) rfl rfl rfl rfl rfl rfl rfl rfl rfl, (by first | rfl | kernel_rfl), ?_⟩) | (refine ⟨_, _, _, a_load_fld (gd_none rfl) rfl rfl rfl rfl rfl rfl rfl rfl rfl rfl rfl rfl rfl, (by first | rfl | kernel_rfl), ?_⟩) | (refine ⟨_, _, _, a_load_fullv (gd_none rfl) rfl rfl rfl rfl rfl rfl rfl rfl rfl, (by first | rfl | kernel_rfl), ?_⟩))
    (first | (refine ⟨_, _, _, a_field_bp (gd_none rfl) rfl rfl rfl rfl rfl rfl rfl rfl rfl, (by first | rfl | kernel_rfl), ?_⟩) | (refine ⟨_, _, _, a_field_ad (gd_none rfl) rfl rfl rfl rfl rfl rfl rfl rfl rfl rfl rfl, (by first | rfl | kernel_rfl), ?_⟩) | (refine ⟨_, _, _, a_fieldM (gd_none rfl) rfl rfl rfl rfl rfl rfl rfl rfl rfl, (by first | rfl | kernel_rfl), ?_⟩))
    (first | (refine ⟨_, _, _, a_load_all (gd_none rfl) rfl rfl rfl rfl rfl rfl rfl rfl rfl rfl rfl rfl, (by first | rfl | kernel_rfl), ?_⟩) | (refine ⟨_, _, _, a_load_tok (gd_none rfl) rfl rfl rfl rfl rfl rfl rfl rfl rfl rfl rfl rfl rfl, (by first | rfl | kernel_rfl), ?_⟩) | (refine ⟨_, _, _, a_load_bp (gd_none rfl) rfl rfl rfl rfl rfl rfl rfl rfl rfl rfl rfl rfl, (by first | rfl | kernel_rfl), ?_⟩) | (refine ⟨_, _, _, a_load_ad (gd_none rfl) rfl rfl rfl rfl rfl rfl rfl rfl rfl, (by first | rfl | kernel_rfl), ?_⟩) | (refine ⟨_, _, _, a_load_ptr (gd_none rfl) rfl rfl rfl rfl rfl rfl rfl rfl rfl, (by first | rfl | kernel_rfl), ?_⟩) | (refine ⟨_, _, _, a_load_fld (gd_none rfl) rfl rfl rfl rfl rfl rfl rfl rfl rfl rfl rfl rfl rfl, (by first | rfl | kernel_rfl), ?_⟩) | (refine ⟨_, _, _, a_load_fullv (gd_none rfl) rfl rfl rfl rfl rfl rfl rfl rfl rfl, (by first | rfl | kernel_rfl), ?_⟩))
    (refine ⟨_, _, _, a_move (gd_none rfl) rfl rfl rfl rfl rfl, (by first | rfl | kernel_rfl), ?_⟩)
    (refine ⟨_, _, _, a_index (gd_none rfl) rfl rfl rfl rfl rfl rfl rfl rfl rfl (by assumption) rfl (by first | assumption | exact szAll_spec rfl | exact Tm.size_all _ | exact Bd.size_all _ | exact ints_size _), (by first | rfl | kernel_rfl), ?_⟩)
    (first | (refine ⟨_, _, _, a_load_all (gd_none rfl) rfl rfl rfl rfl rfl rfl rfl rfl rfl rfl rfl rfl, (by first | rfl | kernel_rfl), ?_⟩) | (refine ⟨_, _, _, a_load_tok (gd_none rfl) rfl rfl rfl rfl rfl rfl rfl rfl rfl rfl rfl rfl rfl, (by first | rfl | kernel_rfl), ?_⟩) | (refine ⟨_, _, _, a_load_bp (gd_none rfl) rfl rfl rfl rfl rfl rfl rfl rfl rfl rfl rfl rfl, (by first | rfl | kernel_rfl), ?_⟩) | (refine ⟨_, _, _, a_load_ad (gd_none rfl) rfl rfl rfl rfl rfl rfl rfl rfl rfl, (by first | rfl | kernel_rfl), ?_⟩) | (refine ⟨_, _, _, a_load_ptr (gd_none rfl) rfl rfl rfl rfl rfl rfl rfl rfl rfl, (by first | rfl | kernel_rfl), ?_⟩) | (refine ⟨_, _, _, a_load_fld (gd_none rfl) rfl rfl rfl rfl rfl rfl rfl rfl rfl rfl rfl rfl rfl, (by first | rfl | kernel_rfl), ?_⟩) | (refine ⟨_, _, _, a_load_fullv (gd_none rfl) rfl rfl rfl rfl rfl rfl rfl rfl rfl, (by first | rfl | kernel_rfl), ?_⟩))
    (refine ⟨_, _, _, a_call (gd_none rfl) rfl rfl rfl rfl rfl ((ih t htm (hok t htm)).up hW), (by first | rfl | kernel_rfl), ?_⟩)
    (refine ⟨_, _, _, a_bslice (gd_none rfl) rfl rfl rfl rfl rfl rfl rfl rfl rfl rfl rfl rfl rfl, (by first | rfl | kernel_rfl), ?_⟩)
    (first | (refine ⟨_, _, _, a_app (gd_none rfl) rfl rfl rfl rfl rfl rfl rfl rfl rfl rfl rfl rfl rfl rfl rfl (by first | assumption | exact szAll_spec rfl | exact Tm.size_all _ | exact Bd.size_all _ | exact ints_size _) (by first | assumption | exact szAll_spec rfl | exact Tm.size_all _ | exact Bd.size_all _ | exact ints_size _) (by first | omega | (simp only [List.length_map, List.length_append, List.length_cons, List.length_nil] <;> omega) | (simp <;> omega)), (by first | rfl | kernel_rfl), ?_⟩) | (refine ⟨_, _, _, a_app_nil (gd_none rfl) rfl rfl rfl rfl rfl rfl rfl rfl rfl rfl rfl (by first | assumption | exact szAll_spec rfl | exact Tm.size_all _ | exact Bd.size_all _ | exact ints_size _) (by first | assumption | exact szAll_spec rfl | exact Tm.size_all _ | exact Bd.size_all _ | exact ints_size _) (by first | omega | (simp only [List.length_map, List.length_append, List.length_cons, List.length_nil] <;> omega) | (simp <;> omega)), (by first | rfl | kernel_rfl), ?_⟩))
    (first | (refine ⟨_, _, _, a_field_bp (gd_none rfl) rfl rfl rfl rfl rfl rfl rfl rfl rfl, (by first | rfl | kernel_rfl), ?_⟩) | (refine ⟨_, _, _, a_field_ad (gd_none rfl) rfl rfl rfl rfl rfl rfl rfl rfl rfl rfl rfl, (by first | rfl | kernel_rfl), ?_⟩) | (refine ⟨_, _, _, a_fieldM (gd_none rfl) rfl rfl rfl rfl rfl rfl rfl rfl rfl, (by first | rfl | kernel_rfl), ?_⟩))
    (first | (refine ⟨_, _, _, a_store_all (gd_none rfl) rfl rfl rfl rfl rfl rfl rfl rfl rfl rfl, (by first | rfl | kernel_rfl), ?_⟩) | (refine ⟨_, _, _, a_store (gd_none rfl) rfl rfl rfl rfl rfl rfl rfl rfl rfl rfl, (by first | rfl | kernel_rfl), ?_⟩) | (refine ⟨_, _, _, a_store_fld (gd_none rfl) rfl rfl rfl rfl rfl rfl rfl rfl rfl rfl rfl rfl, (by first | rfl | kernel_rfl), ?_⟩))
    refine ⟨by kernel_rfl, ?_⟩
    show AWp _ _ _ _ _ _ _
    refine awp_region ?_
    (refine ⟨_, _, _, a_move (gd_none rfl) rfl rfl rfl rfl rfl, (by first | rfl | kernel_rfl), ?_⟩)
    (refine ⟨_, _, _, a_add (gd_none rfl) rfl rfl rfl rfl rfl rfl (by first | omega | (simp only [List.length_map, List.length_append, List.length_cons, List.length_nil] <;> omega) | (simp <;> omega)), (by first | rfl | kernel_rfl), ?_⟩)
    (refine ⟨_, _, _, a_assign (gd_none rfl) rfl rfl rfl rfl rfl, (by first | rfl | kernel_rfl), ?_⟩)
    refine ⟨hkl, Wk.trans (wk_sub (s' := [(1, .bp 1 0 []), (100001, .bx (Tm.cw ⟨f, l⟩)), (2, .bp 2 0 []), (100002, ⟨5, .row [.i 0, .lst []], 1, 0, [1]⟩), (3, .bp 3 0 []), (100003, ⟨5, .row [.i f, .lst (((l.take (k + 1)).map Tm.strip).map Tm.cv)], 300029, 0, [1]⟩), (300029, .tok 24 2), (4, .val (.i ((k + 1 : Nat) : Int)))]) ⟨rfl, rfl, rfl, rfl, rfl, ?_, rfl, rfl, trivial⟩) (wk_ren 300029 200029 rfl rfl rfl rfl)⟩
    rw [List.take_add_one, ht, List.map_append, List.map_append]
    simp only [Option.toList_some, List.map_cons, List.map_nil, Tm.cv_eq]
    rfl
  · have hkl : k = l.length := by
      simp only [List.length_map, decide_eq_false_iff_not] at hc
      omega
    subst hkl
    rw [List.take_length]
    show AWp _ _ _ _ _ _ _
    refine awp_seq (awp_region ?_)
    (first | (refine ⟨_, _, _, a_load_all (gd_none rfl) rfl rfl rfl rfl rfl rfl rfl rfl rfl rfl rfl rfl, (by first | rfl | kernel_rfl), ?_⟩) | (refine ⟨_, _, _, a_load_tok (gd_none rfl) rfl rfl rfl rfl rfl rfl rfl rfl rfl rfl rfl rfl rfl, (by first | rfl | kernel_rfl), ?_⟩) | (refine ⟨_, _, _, a_load_bp (gd_none rfl) rfl rfl rfl rfl rfl rfl rfl rfl rfl rfl rfl rfl, (by first | rfl | kernel_rfl), ?_⟩) | (refine ⟨_, _, _, a_load_ad (gd_none rfl) rfl rfl rfl rfl rfl rfl rfl rfl rfl, (by first | rfl | kernel_rfl), ?_⟩) | (refine ⟨_, _, _, a_load_ptr (gd_none rfl) rfl rfl rfl rfl rfl rfl rfl rfl rfl, (by first | rfl | kernel_rfl), ?_⟩) | (refine ⟨_, _, _, a_load_fld (gd_none rfl) rfl rfl rfl rfl rfl rfl rfl rfl rfl rfl rfl rfl rfl, (by first | rfl | kernel_rfl), ?_⟩) | (refine ⟨_, _, _, a_load_fullv (gd_none rfl) rfl rfl rfl rfl rfl rfl rfl rfl rfl, (by first | rfl | kernel_rfl), ?_⟩))
    (first | (refine ⟨_, _, _, a_store_all (gd_none rfl) rfl rfl rfl rfl rfl rfl rfl rfl rfl rfl, (by first | rfl | kernel_rfl), ?_⟩) | (refine ⟨_, _, _, a_store (gd_none rfl) rfl rfl rfl rfl rfl rfl rfl rfl rfl rfl, (by first | rfl | kernel_rfl), ?_⟩) | (refine ⟨_, _, _, a_store_fld (gd_none rfl) rfl rfl rfl rfl rfl rfl rfl rfl rfl rfl rfl rfl, (by first | rfl | kernel_rfl), ?_⟩))
    show AWp _ _ _ _ _ _ _
    exact awp_ret (And.intro (.inr rfl) rfl)

theorem flat_len_take (l : List Tm) (k : Nat) : ((l.take k).flatMap Tm.flat).length ≤ (l.flatMap Tm.flat).length := by
  conv => rhs; rw [← List.take_append_drop k l, List.flatMap_append, List.length_append]
  omega
-- 
set_option maxHeartbeats 1000000 in
theorem refFlat_abs (W : World) : ∀ (t : Tm), t.ok → t.size ≤ 1000000000 → AFun Try.prog W 97 [t.cw] (.val (.lst (t.flat.map Tm.cv))) := by
  intro t
  induction t using Tm.ind with
  | h f l ih =>
  intro hok hts
  obtain ⟨hl, hok⟩ := (Tm.ok_iff _).1 hok
  simp only at hl hok
  have hsz := Tm.size_all l
  refine afun_of (rs := [.lst ((Tm.flat ⟨f, l⟩).map Tm.cv)]) Try.func97 Try.ntmps97 rfl rfl rfl rfl ?_
  intro w U hW
  refine awp_seq (awp_region ?_)
  (refine ⟨_, _, _, a_box (gd_none rfl) rfl rfl rfl rfl rfl, (by first | rfl | kernel_rfl), ?_⟩)
  (refine ⟨_, _, _, a_assign (gd_none rfl) rfl rfl rfl rfl rfl, (by first | rfl | kernel_rfl), ?_⟩)
  show AWp _ _ _ _ _ _ _
  refine awp_seq (awp_region ?_)
  (first | (refine ⟨_, _, _, a_load_all (gd_none rfl) rfl rfl rfl rfl rfl rfl rfl rfl rfl rfl rfl rfl, (by first | rfl | kernel_rfl), ?_⟩) | (refine ⟨_, _, _, a_load_tok (gd_none rfl) rfl rfl rfl rfl rfl rfl rfl rfl rfl rfl rfl rfl rfl, (by first | rfl | kernel_rfl), ?_⟩) | (refine ⟨_, _, _, a_load_bp (gd_none rfl) rfl rfl rfl rfl rfl rfl rfl rfl rfl rfl rfl rfl, (by first | rfl | kernel_rfl), ?_⟩) | (refine ⟨_, _, _, a_load_ad (gd_none rfl) rfl rfl rfl rfl rfl rfl rfl rfl rfl, (by first | rfl | kernel_rfl), ?_⟩) | (refine ⟨_, _, _, a_load_ptr (gd_none rfl) rfl rfl rfl rfl rfl rfl rfl rfl rfl, (by first | rfl | kernel_rfl), ?_⟩) | (refine ⟨_, _, _, a_load_fld (gd_none rfl) rfl rfl rfl rfl rfl rfl rfl rfl rfl rfl rfl rfl rfl, (by first | rfl | kernel_rfl), ?_⟩) | (refine ⟨_, _, _, a_load_fullv (gd_none rfl) rfl rfl rfl rfl rfl rfl rfl rfl rfl, (by first | rfl | kernel_rfl), ?_⟩))
  (refine ⟨_, _, _, a_bsliceT (gd_none rfl) rfl rfl rfl rfl rfl rfl rfl rfl rfl rfl rfl rfl rfl rfl, (by first | rfl | kernel_rfl), ?_⟩)
  (refine ⟨_, _, _, a_assign (gd_none rfl) rfl rfl rfl rfl rfl, (by first | rfl | kernel_rfl), ?_⟩)
  show AWp _ _ _ _ _ _ _
  refine awp_seq (awp_seq (awp_region ?_))
  (refine ⟨_, _, _, a_assign (gd_none rfl) rfl rfl rfl rfl rfl, (by first | rfl | kernel_rfl), ?_⟩)
  show AWp _ _ _ _ _ _ _
  have e0 : look [(3, AV.own (.lst [Tm.cw ⟨f, l⟩]) 300006)] 3 = some (.own (.lst ([Tm.mk f l].map Tm.cv)) 300006) := by
    simp only [List.map_cons, List.map_nil, Tm.cv_eq]
    rfl
  by_cases hf : f < 0
  · have hg : decide (f ≥ 0) = false := by simpa using hf
    rw [show Tm.flat ⟨f, l⟩ = [⟨f, l⟩] by rw [Tm.flat_eq, Tm.ps_of_var (t := ⟨f, l⟩) hf]; rfl]
    refine awp_block (awp_count 0 (fun k => [(1, .bp 1 0 []), (100001, .bx (Tm.cw ⟨f, l⟩)), (3, .val (.lst ([Tm.mk f l].map Tm.cv))), (4, .val (.i k))]) (Wk.trans (wk_sub (s' := [(1, .bp 1 0 []), (100001, .bx (Tm.cw ⟨f, l⟩)), (3, .own (.lst ([Tm.mk f l].map Tm.cv)) 300006), (4, .val (.i (0 : Nat)))]) ⟨rfl, rfl, e0, rfl, trivial⟩) (wk_plain 3 rfl)) ?_)
    intro k hk
    refine awp_seq (awp_seq (awp_region ?_))
    (first | (refine ⟨_, _, _, a_field_bp (gd_none rfl) rfl rfl rfl rfl rfl rfl rfl rfl rfl, (by first | rfl | kernel_rfl), ?_⟩) | (refine ⟨_, _, _, a_field_ad (gd_none rfl) rfl rfl rfl rfl rfl rfl rfl rfl rfl rfl rfl, (by first | rfl | kernel_rfl), ?_⟩) | (refine ⟨_, _, _, a_fieldM (gd_none rfl) rfl rfl rfl rfl rfl rfl rfl rfl rfl, (by first | rfl | kernel_rfl), ?_⟩))
    (first | (refine ⟨_, _, _, a_load_all (gd_none rfl) rfl rfl rfl rfl rfl rfl rfl rfl rfl rfl rfl rfl, (by first | rfl | kernel_rfl), ?_⟩) | (refine ⟨_, _, _, a_load_tok (gd_none rfl) rfl rfl rfl rfl rfl rfl rfl rfl rfl rfl rfl rfl rfl, (by first | rfl | kernel_rfl), ?_⟩) | (refine ⟨_, _, _, a_load_bp (gd_none rfl) rfl rfl rfl rfl rfl rfl rfl rfl rfl rfl rfl rfl, (by first | rfl | kernel_rfl), ?_⟩) | (refine ⟨_, _, _, a_load_ad (gd_none rfl) rfl rfl rfl rfl rfl rfl rfl rfl rfl, (by first | rfl | kernel_rfl), ?_⟩) | (refine ⟨_, _, _, a_load_ptr (gd_none rfl) rfl rfl rfl rfl rfl rfl rfl rfl rfl, (by first | rfl | kernel_rfl), ?_⟩) | (refine ⟨_, _, _, a_load_fld (gd_none rfl) rfl rfl rfl rfl rfl rfl rfl rfl rfl rfl rfl rfl rfl, (by first | rfl | kernel_rfl), ?_⟩) | (refine ⟨_, _, _, a_load_fullv (gd_none rfl) rfl rfl rfl rfl rfl rfl rfl rfl rfl, (by first | rfl | kernel_rfl), ?_⟩))
    (refine ⟨_, _, _, a_geq (gd_none rfl) rfl rfl rfl rfl rfl rfl, (by first | rfl | kernel_rfl), ?_⟩)
    (refine ⟨_, _, _, a_move (gd_none rfl) rfl rfl rfl rfl rfl, (by first | rfl | kernel_rfl), ?_⟩)
    (refine ⟨_, _, _, a_off (go_off rfl rfl rfl rfl (by first | rfl | assumption | (simp; done) | (simp [*]; done))) rfl rfl rfl, rfl, ?_⟩)
    (refine ⟨_, _, _, a_off (go_off rfl rfl rfl rfl (by first | rfl | assumption | (simp; done) | (simp [*]; done))) rfl rfl rfl, rfl, ?_⟩)
    (refine ⟨_, _, _, a_off (go_off rfl rfl rfl rfl (by first | rfl | assumption | (simp; done) | (simp [*]; done))) rfl rfl rfl, rfl, ?_⟩)
    (refine ⟨_, _, _, a_off (go_off rfl rfl rfl rfl (by first | rfl | assumption | (simp; done) | (simp [*]; done))) rfl rfl rfl, rfl, ?_⟩)
    (refine ⟨_, _, _, a_off (go_off rfl rfl rfl rfl (by first | rfl | assumption | (simp; done) | (simp [*]; done))) rfl rfl rfl, rfl, ?_⟩)
    (first | (refine ⟨_, _, _, a_pick_t (gd_none rfl) rfl rfl rfl rfl rfl ?hb rfl, rfl, ?_⟩; case hb => (first | rfl | assumption | (simp; done))) | (refine ⟨_, _, _, a_pick_f (gd_none rfl) rfl rfl rfl rfl rfl ?hb rfl, rfl, ?_⟩; case hb => (first | rfl | assumption | (simp; done))))
    show AWp _ _ _ _ _ _ _
    refine awp_cond rfl (fun hc => by cases hc) (fun hc => awp_exit ?_)
    show AWp _ _ _ _ _ _ _
    refine awp_seq (awp_region ?_)
    (refine ⟨_, _, _, a_move (gd_none rfl) rfl rfl rfl rfl rfl, (by first | rfl | kernel_rfl), ?_⟩)
    (refine ⟨_, _, _, a_assign (gd_none rfl) rfl rfl rfl rfl rfl, (by first | rfl | kernel_rfl), ?_⟩)
    show AWp _ _ _ _ _ _ _
    exact awp_ret (And.intro (.inr rfl) rfl)
  have hg : decide (f ≥ 0) = true := by simp only [decide_eq_true_eq]; omega
  have hfl : Tm.flat ⟨f, l⟩ = ⟨f, l⟩ :: l.flatMap Tm.flat := by rw [Tm.flat_eq, Tm.ps_of_sym (t := ⟨f, l⟩) (by show 0 ≤ f; omega)]
  unfold Tm.size at hts
  rw [hfl] at hts ⊢
  rw [List.length_cons] at hts
  refine awp_block (awp_count l.length (fun k => [(1, .bp 1 0 []), (100001, .bx (Tm.cw ⟨f, l⟩)), (3, .own (.lst ((Tm.mk f l :: (l.take k).flatMap Tm.flat).map Tm.cv)) 200026), (200026, .tok 24 2), (4, .val (.i k))])
    (Wk.trans (wk_sub (s' := [(1, .bp 1 0 []), (100001, .bx (Tm.cw ⟨f, l⟩)), (3, .own (.lst ([Tm.mk f l].map Tm.cv)) 300006), (300006, .tok 24 2), (4, .val (.i (0 : Nat)))]) ⟨rfl, rfl, e0, rfl, rfl, trivial⟩) (wk_ren 300006 200026 rfl rfl rfl rfl)) ?_)
  intro k hk
  refine awp_seq (awp_seq (awp_region ?_))
  (first | (refine ⟨_, _, _, a_field_bp (gd_none rfl) rfl rfl rfl rfl rfl rfl rfl rfl rfl, (by first | rfl | kernel_rfl), ?_⟩) | (refine ⟨_, _, _, a_field_ad (gd_none rfl) rfl rfl rfl rfl rfl rfl rfl rfl rfl rfl rfl, (by first | rfl | kernel_rfl), ?_⟩) | (refine ⟨_, _, _, a_fieldM (gd_none rfl) rfl rfl rfl rfl rfl rfl rfl rfl rfl, (by first | rfl | kernel_rfl), ?_⟩))
  (first | (refine ⟨_, _, _, a_load_all (gd_none rfl) rfl rfl rfl rfl rfl rfl rfl rfl rfl rfl rfl rfl, (by first | rfl | kernel_rfl), ?_⟩) | (refine ⟨_, _, _, a_load_tok (gd_none rfl) rfl rfl rfl rfl rfl rfl rfl rfl rfl rfl rfl rfl rfl, (by first | rfl | kernel_rfl), ?_⟩) | (refine ⟨_, _, _, a_load_bp (gd_none rfl) rfl rfl rfl rfl rfl rfl rfl rfl rfl rfl rfl rfl, (by first | rfl | kernel_rfl), ?_⟩) | (refine ⟨_, _, _, a_load_ad (gd_none rfl) rfl rfl rfl rfl rfl rfl rfl rfl rfl, (by first | rfl | kernel_rfl), ?_⟩) | (refine ⟨_, _, _, a_load_ptr (gd_none rfl) rfl rfl rfl rfl rfl rfl rfl rfl rfl, (by first | rfl | kernel_rfl), ?_⟩) | (refine ⟨_, _, _, a_load_fld (gd_none rfl) rfl rfl rfl rfl rfl rfl rfl rfl rfl rfl rfl rfl rfl, (by first | rfl | kernel_rfl), ?_⟩) | (refine ⟨_, _, _, a_load_fullv (gd_none rfl) rfl rfl rfl rfl rfl rfl rfl rfl rfl, (by first | rfl | kernel_rfl), ?_⟩))
  (refine ⟨_, _, _, a_geq (gd_none rfl) rfl rfl rfl rfl rfl rfl, (by first | rfl | kernel_rfl), ?_⟩)
  (refine ⟨_, _, _, a_move (gd_none rfl) rfl rfl rfl rfl rfl, (by first | rfl | kernel_rfl), ?_⟩)
  (refine ⟨_, _, _, a_move (gd_on rfl rfl rfl rfl (by first | rfl | assumption | (simp; done))) rfl rfl rfl rfl rfl, (by first | rfl | kernel_rfl), ?_⟩)
  (first | (refine ⟨_, _, _, a_field_bp (gd_on rfl rfl rfl rfl (by first | rfl | assumption | (simp; done))) rfl rfl rfl rfl rfl rfl rfl rfl rfl, (by first | rfl | kernel_rfl), ?_⟩) | (refine ⟨_, _, _, a_field_ad (gd_on rfl rfl rfl rfl (by first | rfl | assumption | (simp; done))) rfl rfl rfl rfl rfl rfl rfl rfl rfl rfl rfl, (by first | rfl | kernel_rfl), ?_⟩) | (refine ⟨_, _, _, a_fieldM (gd_on rfl rfl rfl rfl (by first | rfl | assumption | (simp; done))) rfl rfl rfl rfl rfl rfl rfl rfl rfl, (by first | rfl | kernel_rfl), ?_⟩))
  (first | (refine ⟨_, _, _, a_load_all (gd_on rfl rfl rfl rfl (by first | rfl | assumption | (simp; done))) rfl rfl rfl rfl rfl rfl rfl rfl rfl rfl rfl rfl, (by first | rfl | kernel_rfl), ?_⟩) | (refine ⟨_, _, _, a_load_tok (gd_on rfl rfl rfl rfl (by first | rfl | assumption | (simp; done))) rfl rfl rfl rfl rfl rfl rfl rfl rfl rfl rfl rfl rfl, (by first | rfl | kernel_rfl), ?_⟩) | (refine ⟨_, _, _, a_load_bp (gd_on rfl rfl rfl rfl (by first | rfl | assumption | (simp; done))) rfl rfl rfl rfl rfl rfl rfl rfl rfl rfl rfl rfl, (by first | rfl | kernel_rfl), ?_⟩) | (refine ⟨_, _, _, a_load_ad (gd_on rfl rfl rfl rfl (by first | rfl | assumption | (simp; done))) rfl rfl rfl rfl rfl rfl rfl rfl rfl, (by first | rfl | kernel_rfl), ?_⟩) | (refine ⟨_, _, _, a_load_ptr (gd_on rfl rfl rfl rfl (by first | rfl | assumption | (simp; done))) rfl rfl rfl rfl rfl rfl rfl rfl rfl, (by first | rfl | kernel_rfl), ?_⟩) | (refine ⟨_, _, _, a_load_fld (gd_on rfl rfl rfl rfl (by first | rfl | assumption | (simp; done))) rfl rfl rfl rfl rfl rfl rfl rfl rfl rfl rfl rfl rfl, (by first | rfl | kernel_rfl), ?_⟩) | (refine ⟨_, _, _, a_load_fullv (gd_on rfl rfl rfl rfl (by first | rfl | assumption | (simp; done))) rfl rfl rfl rfl rfl rfl rfl rfl rfl, (by first | rfl | kernel_rfl), ?_⟩))
  (first | (refine ⟨_, _, _, a_len (gd_on rfl rfl rfl rfl (by first | rfl | assumption | (simp; done))) rfl rfl rfl rfl rfl rfl rfl, (by first | rfl | kernel_rfl), ?_⟩) | (refine ⟨_, _, _, a_lenM (gd_on rfl rfl rfl rfl (by first | rfl | assumption | (simp; done))) rfl rfl rfl rfl rfl rfl rfl, (by first | rfl | kernel_rfl), ?_⟩))
  (refine ⟨_, _, _, a_lss (gd_on rfl rfl rfl rfl (by first | rfl | assumption | (simp; done))) rfl rfl rfl rfl rfl rfl, (by first | rfl | kernel_rfl), ?_⟩)
  (first | (refine ⟨_, _, _, a_pick_t (gd_none rfl) rfl rfl rfl rfl rfl ?hb rfl, rfl, ?_⟩; case hb => (first | rfl | assumption | (simp; done))) | (refine ⟨_, _, _, a_pick_f (gd_none rfl) rfl rfl rfl rfl rfl ?hb rfl, rfl, ?_⟩; case hb => (first | rfl | assumption | (simp; done))))
  show AWp _ _ _ _ _ _ _
  refine awp_cond rfl (fun hc => awp_skip ?_) (fun hc => awp_exit ?_)
  · have hkl : k < l.length := by
      simp only [List.length_map, decide_eq_true_eq] at hc
      omega
    clear hc
    obtain ⟨t, ht⟩ : ∃ t, l[k]? = some t := ⟨l[k], List.getElem?_eq_getElem hkl⟩
    have ht' := Tm.map_at ht
    have htm := List.mem_of_getElem? ht
    have hb1 := flat_len_take l k
    have hb2 := flatMap_len_mem Tm.flat htm
    show AWp _ _ _ _ _ _ _
    refine awp_seq (awp_block (awp_region ?_))
    (refine ⟨_, _, _, a_move (gd_none rfl) rfl rfl rfl rfl rfl, (by first | rfl | kernel_rfl), ?_⟩)
    (first | (refine ⟨_, _, _, a_field_bp (gd_none rfl) rfl rfl rfl rfl rfl rfl rfl rfl rfl, (by first | rfl | kernel_rfl), ?_⟩) | (refine ⟨_, _, _, a_field_ad (gd_none rfl) rfl rfl rfl rfl rfl rfl rfl rfl rfl rfl rfl, (by first | rfl | kernel_rfl), ?_⟩) | (refine ⟨_, _, _, a_fieldM (gd_none rfl) rfl rfl rfl rfl rfl rfl rfl rfl rfl, (by first | rfl | kernel_rfl), ?_⟩))
    (first | (refine ⟨_, _, _, a_load_all (gd_none rfl) rfl rfl rfl rfl rfl rfl rfl rfl rfl rfl rfl rfl, (by first | rfl | kernel_rfl), ?_⟩) | (refine ⟨_, _, _, a_load_tok (gd_none rfl) rfl rfl rfl rfl rfl rfl rfl rfl rfl rfl rfl rfl rfl, (by first | rfl | kernel_rfl), ?_⟩) | (refine ⟨_, _, _, a_load_bp (gd_none rfl) rfl rfl rfl rfl rfl rfl rfl rfl rfl rfl rfl rfl, (by first | rfl | kernel_rfl), ?_⟩) | (refine ⟨_, _, _, a_load_ad (gd_none rfl) rfl rfl rfl rfl rfl rfl rfl rfl rfl, (by first | rfl | kernel_rfl), ?_⟩) | (refine ⟨_, _, _, a_load_ptr (gd_none rfl) rfl rfl rfl rfl rfl rfl rfl rfl rfl, (by first | rfl | kernel_rfl), ?_⟩) | (refine ⟨_, _, _, a_load_fld (gd_none rfl) rfl rfl rfl rfl rfl rfl rfl rfl rfl rfl rfl rfl rfl, (by first | rfl | kernel_rfl), ?_⟩) | (refine ⟨_, _, _, a_load_fullv (gd_none rfl) rfl rfl rfl rfl rfl rfl rfl rfl rfl, (by first | rfl | kernel_rfl), ?_⟩))
    (refine ⟨_, _, _, a_move (gd_none rfl) rfl rfl rfl rfl rfl, (by first | rfl | kernel_rfl), ?_⟩)
    (refine ⟨_, _, _, a_index (gd_none rfl) rfl rfl rfl rfl rfl rfl rfl rfl rfl (by assumption) rfl (by first | assumption | exact szAll_spec rfl | exact Tm.size_all _ | exact Bd.size_all _ | exact ints_size _), (by first | rfl | kernel_rfl), ?_⟩)
    (first | (refine ⟨_, _, _, a_load_all (gd_none rfl) rfl rfl rfl rfl rfl rfl rfl rfl rfl rfl rfl rfl, (by first | rfl | kernel_rfl), ?_⟩) | (refine ⟨_, _, _, a_load_tok (gd_none rfl) rfl rfl rfl rfl rfl rfl rfl rfl rfl rfl rfl rfl rfl, (by first | rfl | kernel_rfl), ?_⟩) | (refine ⟨_, _, _, a_load_bp (gd_none rfl) rfl rfl rfl rfl rfl rfl rfl rfl rfl rfl rfl rfl, (by first | rfl | kernel_rfl), ?_⟩) | (refine ⟨_, _, _, a_load_ad (gd_none rfl) rfl rfl rfl rfl rfl rfl rfl rfl rfl, (by first | rfl | kernel_rfl), ?_⟩) | (refine ⟨_, _, _, a_load_ptr (gd_none rfl) rfl rfl rfl rfl rfl rfl rfl rfl rfl, (by first | rfl | kernel_rfl), ?_⟩) | (refine ⟨_, _, _, a_load_fld (gd_none rfl) rfl rfl rfl rfl rfl rfl rfl rfl rfl rfl rfl rfl rfl, (by first | rfl | kernel_rfl), ?_⟩) | (refine ⟨_, _, _, a_load_fullv (gd_none rfl) rfl rfl rfl rfl rfl rfl rfl rfl rfl, (by first | rfl | kernel_rfl), ?_⟩))
    (refine ⟨_, _, _, a_call (gd_none rfl) rfl rfl rfl rfl rfl ((ih t htm (hok t htm) (by unfold Tm.size; omega)).up hW), (by first | rfl | kernel_rfl), ?_⟩)
    (first | (refine ⟨_, _, _, a_app (gd_none rfl) rfl rfl rfl rfl rfl rfl rfl rfl rfl rfl rfl rfl rfl rfl rfl (by first | assumption | exact szAll_spec rfl | exact Tm.size_all _ | exact Bd.size_all _ | exact ints_size _) (by first | assumption | exact szAll_spec rfl | exact Tm.size_all _ | exact Bd.size_all _ | exact ints_size _) (by first | omega | (simp only [List.length_map, List.length_append, List.length_cons, List.length_nil] <;> omega) | (simp <;> omega)), (by first | rfl | kernel_rfl), ?_⟩) | (refine ⟨_, _, _, a_app_nil (gd_none rfl) rfl rfl rfl rfl rfl rfl rfl rfl rfl rfl rfl (by first | assumption | exact szAll_spec rfl | exact Tm.size_all _ | exact Bd.size_all _ | exact ints_size _) (by first | assumption | exact szAll_spec rfl | exact Tm.size_all _ | exact Bd.size_all _ | exact ints_size _) (by first | omega | (simp only [List.length_map, List.length_append, List.length_cons, List.length_nil] <;> omega) | (simp <;> omega)), (by first | rfl | kernel_rfl), ?_⟩))
    (refine ⟨_, _, _, a_assign (gd_none rfl) rfl rfl rfl rfl rfl, (by first | rfl | kernel_rfl), ?_⟩)
    show AWp _ _ _ _ _ _ _
    refine awp_region ?_
    (refine ⟨_, _, _, a_move (gd_none rfl) rfl rfl rfl rfl rfl, (by first | rfl | kernel_rfl), ?_⟩)
    (refine ⟨_, _, _, a_add (gd_none rfl) rfl rfl rfl rfl rfl rfl (by first | omega | (simp only [List.length_map, List.length_append, List.length_cons, List.length_nil] <;> omega) | (simp <;> omega)), (by first | rfl | kernel_rfl), ?_⟩)
    (refine ⟨_, _, _, a_assign (gd_none rfl) rfl rfl rfl rfl rfl, (by first | rfl | kernel_rfl), ?_⟩)
    refine ⟨hkl, Wk.trans (wk_sub (s' := [(1, .bp 1 0 []), (100001, .bx (Tm.cw ⟨f, l⟩)), (3, .own (.lst ((Tm.mk f l :: (l.take (k + 1)).flatMap Tm.flat).map Tm.cv)) 300026), (300026, .tok 24 2), (4, .val (.i ((k + 1 : Nat) : Int)))]) ⟨rfl, rfl, ?_, rfl, rfl, trivial⟩) (wk_ren 300026 200026 rfl rfl rfl rfl)⟩
    rw [List.take_add_one, ht, List.flatMap_append, ← List.cons_append, List.map_append]
    simp only [Option.toList_some, List.flatMap_cons, List.flatMap_nil, List.append_nil]
    rfl
  · have hkl : k = l.length := by
      simp only [List.length_map, decide_eq_false_iff_not] at hc
      omega
    subst hkl
    rw [List.take_length]
    show AWp _ _ _ _ _ _ _
    refine awp_seq (awp_region ?_)
    (refine ⟨_, _, _, a_move (gd_none rfl) rfl rfl rfl rfl rfl, (by first | rfl | kernel_rfl), ?_⟩)
    (refine ⟨_, _, _, a_assign (gd_none rfl) rfl rfl rfl rfl rfl, (by first | rfl | kernel_rfl), ?_⟩)
    show AWp _ _ _ _ _ _ _
    exact awp_ret (And.intro (.inr rfl) rfl)
end Go.Proofs.Ytgmllfjidhbjjaa

namespace Go.Proofs.Ytgmllfjidhbjjaa
open Go.RowKit
set_option linter.unusedVariables false
set_option linter.unusedSimpArgs false
set_option maxRecDepth 100000

theorem Tm.rng_flat {t : Tm} (h : t.rng) : ∀ s ∈ t.flat, -9223372036854775808 ≤ s.f ∧ s.f ≤ 9223372036854775807 := by
  induction t using Tm.indp with
  | h t ih =>
    intro s hs
    rw [Tm.flat_eq] at hs
    rcases List.mem_cons.1 hs with rfl | hs
    · exact ((Tm.rng_iff _).1 h).1
    · obtain ⟨u, hu, hs⟩ := List.mem_flatMap.1 hs
      exact ih u hu (((Tm.rng_iff _).1 h).2 u (Tm.ps_mem hu).1) s hs
theorem mem_take_succ {l : List Int} {k : Nat} {x n : Int} (h : l[k]? = some x) : n ∈ l.take (k + 1) ↔ n ∈ l.take k ∨ x = n := by
  rw [List.take_add_one, h, List.mem_append]
  simp [eq_comm]

-- 
set_option maxHeartbeats 2000000 in
theorem refVars_abs (W : World) (t : Tm) (hr : t.rng) (hok : t.ok) (hts : t.size ≤ 1000000000) : AFun Try.prog W 61 [t.cw] (.val (.lst ((varsF t.flat).map CV.i))) := by
  refine afun_of (rs := [.lst ((varsF t.flat).map CV.i)]) Try.func61 Try.ntmps61 rfl rfl rfl rfl ?_
  intro w U hW
  refine awp_seq (awp_region ?_)
  (refine ⟨_, _, _, a_box (gd_none rfl) rfl rfl rfl rfl rfl, (by first | rfl | kernel_rfl), ?_⟩)
  (refine ⟨_, _, _, a_assign (gd_none rfl) rfl rfl rfl rfl rfl, (by first | rfl | kernel_rfl), ?_⟩)
  show AWp _ _ _ _ _ _ _
  refine awp_seq (awp_region ?_)
  (first | (refine ⟨_, _, _, a_load_all (gd_none rfl) rfl rfl rfl rfl rfl rfl rfl rfl rfl rfl rfl rfl, (by first | rfl | kernel_rfl), ?_⟩) | (refine ⟨_, _, _, a_load_tok (gd_none rfl) rfl rfl rfl rfl rfl rfl rfl rfl rfl rfl rfl rfl rfl, (by first | rfl | kernel_rfl), ?_⟩) | (refine ⟨_, _, _, a_load_bp (gd_none rfl) rfl rfl rfl rfl rfl rfl rfl rfl rfl rfl rfl rfl, (by first | rfl | kernel_rfl), ?_⟩) | (refine ⟨_, _, _, a_load_ad (gd_none rfl) rfl rfl rfl rfl rfl rfl rfl rfl rfl, (by first | rfl | kernel_rfl), ?_⟩) | (refine ⟨_, _, _, a_load_ptr (gd_none rfl) rfl rfl rfl rfl rfl rfl rfl rfl rfl, (by first | rfl | kernel_rfl), ?_⟩) | (refine ⟨_, _, _, a_load_fld (gd_none rfl) rfl rfl rfl rfl rfl rfl rfl rfl rfl rfl rfl rfl rfl, (by first | rfl | kernel_rfl), ?_⟩) | (refine ⟨_, _, _, a_load_fullv (gd_none rfl) rfl rfl rfl rfl rfl rfl rfl rfl rfl, (by first | rfl | kernel_rfl), ?_⟩))
  (refine ⟨_, _, _, a_call (gd_none rfl) rfl rfl rfl rfl rfl (refFlat_abs w t hok hts), (by first | rfl | kernel_rfl), ?_⟩)
  (refine ⟨_, _, _, a_assign (gd_none rfl) rfl rfl rfl rfl rfl, (by first | rfl | kernel_rfl), ?_⟩)
  show AWp _ _ _ _ _ _ _
  have hrf := Tm.rng_flat hr
  unfold Tm.size at hts
  obtain ⟨l, hl⟩ : ∃ l, l = t.flat := ⟨_, rfl⟩
  rw [← hl] at hrf hts ⊢
  have hsz := Tm.size_all l
  refine awp_seq (awp_region ?_)
  (refine ⟨_, _, _, a_assign (gd_none rfl) rfl rfl rfl rfl rfl, (by first | rfl | kernel_rfl), ?_⟩)
  show AWp _ _ _ _ _ _ _
  refine awp_seq (awp_seq (awp_region ?_))
  (refine ⟨_, _, _, a_assign (gd_none rfl) rfl rfl rfl rfl rfl, (by first | rfl | kernel_rfl), ?_⟩)
  show AWp _ _ _ _ _ _ _
  refine awp_block (awp_count l.length (fun i => [(3, .val (.lst (l.map Tm.cv))), (4, .own (.lst ((varsF (l.take i)).map CV.i)) 200049), (200049, .tok 3 1), (5, .val (.i i))])
    ((wk_nil 4 200049 3 1 rfl rfl rfl rfl rfl rfl rfl).trans (wk_sub ⟨rfl, rfl, rfl, rfl, trivial⟩)) ?_)
  intro i hi
  refine awp_seq (awp_seq (awp_region ?_))
  (refine ⟨_, _, _, a_move (gd_none rfl) rfl rfl rfl rfl rfl, (by first | rfl | kernel_rfl), ?_⟩)
  (refine ⟨_, _, _, a_move (gd_none rfl) rfl rfl rfl rfl rfl, (by first | rfl | kernel_rfl), ?_⟩)
  (first | (refine ⟨_, _, _, a_len (gd_none rfl) rfl rfl rfl rfl rfl rfl rfl, (by first | rfl | kernel_rfl), ?_⟩) | (refine ⟨_, _, _, a_lenM (gd_none rfl) rfl rfl rfl rfl rfl rfl rfl, (by first | rfl | kernel_rfl), ?_⟩))
  (refine ⟨_, _, _, a_lss (gd_none rfl) rfl rfl rfl rfl rfl rfl, (by first | rfl | kernel_rfl), ?_⟩)
  show AWp _ _ _ _ _ _ _
  refine awp_cond rfl (fun hc => awp_skip ?_) (fun hc => awp_exit ?_)
  · have hil : i < l.length := by
      simp only [List.length_map, decide_eq_true_eq] at hc
      omega
    clear hc
    obtain ⟨s, hs⟩ : ∃ s, l[i]? = some s := ⟨l[i], List.getElem?_eq_getElem hil⟩
    have hs' := Tm.map_at hs
    have hsr := hrf s (List.mem_of_getElem? hs)
    have htk : l.take (i + 1) = l.take i ++ [s] := by rw [List.take_add_one, hs]; rfl
    have hvl := varsF_len (l.take i)
    rw [List.length_take] at hvl
    show AWp _ _ _ _ _ _ _
    refine awp_seq (awp_block (awp_seq (awp_seq (awp_region ?_))))
    (refine ⟨_, _, _, a_move (gd_none rfl) rfl rfl rfl rfl rfl, (by first | rfl | kernel_rfl), ?_⟩)
    (refine ⟨_, _, _, a_move (gd_none rfl) rfl rfl rfl rfl rfl, (by first | rfl | kernel_rfl), ?_⟩)
    (refine ⟨_, _, _, a_index (gd_none rfl) rfl rfl rfl rfl rfl rfl rfl rfl rfl (by assumption) rfl (by first | assumption | exact szAll_spec rfl | exact Tm.size_all _ | exact Bd.size_all _ | exact ints_size _), (by first | rfl | kernel_rfl), ?_⟩)
    (first | (refine ⟨_, _, _, a_field_bp (gd_none rfl) rfl rfl rfl rfl rfl rfl rfl rfl rfl, (by first | rfl | kernel_rfl), ?_⟩) | (refine ⟨_, _, _, a_field_ad (gd_none rfl) rfl rfl rfl rfl rfl rfl rfl rfl rfl rfl rfl, (by first | rfl | kernel_rfl), ?_⟩) | (refine ⟨_, _, _, a_fieldM (gd_none rfl) rfl rfl rfl rfl rfl rfl rfl rfl rfl, (by first | rfl | kernel_rfl), ?_⟩))
    (first | (refine ⟨_, _, _, a_load_all (gd_none rfl) rfl rfl rfl rfl rfl rfl rfl rfl rfl rfl rfl rfl, (by first | rfl | kernel_rfl), ?_⟩) | (refine ⟨_, _, _, a_load_tok (gd_none rfl) rfl rfl rfl rfl rfl rfl rfl rfl rfl rfl rfl rfl rfl, (by first | rfl | kernel_rfl), ?_⟩) | (refine ⟨_, _, _, a_load_bp (gd_none rfl) rfl rfl rfl rfl rfl rfl rfl rfl rfl rfl rfl rfl, (by first | rfl | kernel_rfl), ?_⟩) | (refine ⟨_, _, _, a_load_ad (gd_none rfl) rfl rfl rfl rfl rfl rfl rfl rfl rfl, (by first | rfl | kernel_rfl), ?_⟩) | (refine ⟨_, _, _, a_load_ptr (gd_none rfl) rfl rfl rfl rfl rfl rfl rfl rfl rfl, (by first | rfl | kernel_rfl), ?_⟩) | (refine ⟨_, _, _, a_load_fld (gd_none rfl) rfl rfl rfl rfl rfl rfl rfl rfl rfl rfl rfl rfl rfl, (by first | rfl | kernel_rfl), ?_⟩) | (refine ⟨_, _, _, a_load_fullv (gd_none rfl) rfl rfl rfl rfl rfl rfl rfl rfl rfl, (by first | rfl | kernel_rfl), ?_⟩))
    (refine ⟨_, _, _, a_geq (gd_none rfl) rfl rfl rfl rfl rfl rfl, (by first | rfl | kernel_rfl), ?_⟩)
    show AWp _ _ _ _ _ _ _
    refine awp_cond rfl (fun hc => awp_exit ?_) (fun hc => awp_skip ?_)
    · have hsf : ¬ s.f < 0 := by
        simp only [decide_eq_true_eq] at hc
        omega
      show AWp _ _ _ _ _ _ _
      refine awp_region ?_
      (refine ⟨_, _, _, a_move (gd_none rfl) rfl rfl rfl rfl rfl, (by first | rfl | kernel_rfl), ?_⟩)
      (refine ⟨_, _, _, a_add (gd_none rfl) rfl rfl rfl rfl rfl rfl (by first | omega | (simp only [List.length_map, List.length_append, List.length_cons, List.length_nil] <;> omega) | (simp <;> omega)), (by first | rfl | kernel_rfl), ?_⟩)
      (refine ⟨_, _, _, a_assign (gd_none rfl) rfl rfl rfl rfl rfl, (by first | rfl | kernel_rfl), ?_⟩)
      refine ⟨hil, wk_sub ⟨rfl, ?_, rfl, rfl, trivial⟩⟩
      rw [htk, varsF_snoc]
      unfold varS
      rw [if_neg hsf]
      rfl
    have hsf : s.f < 0 := by
      simp only [decide_eq_false_iff_not] at hc
      omega
    clear hc
    show AWp _ _ _ _ _ _ _
    refine awp_seq (awp_region ?_)
    (refine ⟨_, _, _, a_move (gd_none rfl) rfl rfl rfl rfl rfl, (by first | rfl | kernel_rfl), ?_⟩)
    (refine ⟨_, _, _, a_move (gd_none rfl) rfl rfl rfl rfl rfl, (by first | rfl | kernel_rfl), ?_⟩)
    (refine ⟨_, _, _, a_index (gd_none rfl) rfl rfl rfl rfl rfl rfl rfl rfl rfl (by assumption) rfl (by first | assumption | exact szAll_spec rfl | exact Tm.size_all _ | exact Bd.size_all _ | exact ints_size _), (by first | rfl | kernel_rfl), ?_⟩)
    (first | (refine ⟨_, _, _, a_field_bp (gd_none rfl) rfl rfl rfl rfl rfl rfl rfl rfl rfl, (by first | rfl | kernel_rfl), ?_⟩) | (refine ⟨_, _, _, a_field_ad (gd_none rfl) rfl rfl rfl rfl rfl rfl rfl rfl rfl rfl rfl, (by first | rfl | kernel_rfl), ?_⟩) | (refine ⟨_, _, _, a_fieldM (gd_none rfl) rfl rfl rfl rfl rfl rfl rfl rfl rfl, (by first | rfl | kernel_rfl), ?_⟩))
    (first | (refine ⟨_, _, _, a_load_all (gd_none rfl) rfl rfl rfl rfl rfl rfl rfl rfl rfl rfl rfl rfl, (by first | rfl | kernel_rfl), ?_⟩) | (refine ⟨_, _, _, a_load_tok (gd_none rfl) rfl rfl rfl rfl rfl rfl rfl rfl rfl rfl rfl rfl rfl, (by first | rfl | kernel_rfl), ?_⟩) | (refine ⟨_, _, _, a_load_bp (gd_none rfl) rfl rfl rfl rfl rfl rfl rfl rfl rfl rfl rfl rfl, (by first | rfl | kernel_rfl), ?_⟩) | (refine ⟨_, _, _, a_load_ad (gd_none rfl) rfl rfl rfl rfl rfl rfl rfl rfl rfl, (by first | rfl | kernel_rfl), ?_⟩) | (refine ⟨_, _, _, a_load_ptr (gd_none rfl) rfl rfl rfl rfl rfl rfl rfl rfl rfl, (by first | rfl | kernel_rfl), ?_⟩) | (refine ⟨_, _, _, a_load_fld (gd_none rfl) rfl rfl rfl rfl rfl rfl rfl rfl rfl rfl rfl rfl rfl, (by first | rfl | kernel_rfl), ?_⟩) | (refine ⟨_, _, _, a_load_fullv (gd_none rfl) rfl rfl rfl rfl rfl rfl rfl rfl rfl, (by first | rfl | kernel_rfl), ?_⟩))
    (refine ⟨_, _, _, a_sub (gd_none rfl) rfl rfl rfl rfl rfl rfl (by first | omega | (simp only [List.length_map, List.length_append, List.length_cons, List.length_nil] <;> omega) | (simp <;> omega)), (by first | rfl | kernel_rfl), ?_⟩)
    (refine ⟨_, _, _, a_assign (gd_none rfl) rfl rfl rfl rfl rfl, (by first | rfl | kernel_rfl), ?_⟩)
    show AWp _ _ _ _ _ _ _
    refine awp_seq (awp_region ?_)
    (refine ⟨_, _, _, a_assign (gd_none rfl) rfl rfl rfl rfl rfl, (by first | rfl | kernel_rfl), ?_⟩)
    show AWp _ _ _ _ _ _ _
    obtain ⟨n, hn⟩ : ∃ n, n = -1 - s.f := ⟨_, rfl⟩
    obtain ⟨out, ho⟩ : ∃ out, out = varsF (l.take i) := ⟨_, rfl⟩
    rw [← ho] at hvl ⊢
    have hoz := ints_size out
    refine awp_seq (awp_seq (awp_region ?_))
    (refine ⟨_, _, _, a_assign (gd_none rfl) rfl rfl rfl rfl rfl, (by first | rfl | kernel_rfl), ?_⟩)
    show AWp _ _ _ _ _ _ _
    refine awp_block (awp_count out.length (fun k => [(3, .val (.lst (l.map Tm.cv))), (4, .own (.lst (out.map CV.i)) 200049), (200049, .tok 3 1), (5, .val (.i i)), (6, .val (.i n)), (7, .val (.b (decide (n ∈ out.take k)))), (8, .val (.i k))]) (wk_sub ⟨rfl, rfl, rfl, rfl, by rw [hn]; rfl, rfl, rfl, trivial⟩) ?_)
    intro k hk
    refine awp_seq (awp_seq (awp_region ?_))
    (refine ⟨_, _, _, a_move (gd_none rfl) rfl rfl rfl rfl rfl, (by first | rfl | kernel_rfl), ?_⟩)
    (refine ⟨_, _, _, a_move (gd_none rfl) rfl rfl rfl rfl rfl, (by first | rfl | kernel_rfl), ?_⟩)
    (first | (refine ⟨_, _, _, a_len (gd_none rfl) rfl rfl rfl rfl rfl rfl rfl, (by first | rfl | kernel_rfl), ?_⟩) | (refine ⟨_, _, _, a_lenM (gd_none rfl) rfl rfl rfl rfl rfl rfl rfl, (by first | rfl | kernel_rfl), ?_⟩))
    (refine ⟨_, _, _, a_lss (gd_none rfl) rfl rfl rfl rfl rfl rfl, (by first | rfl | kernel_rfl), ?_⟩)
    show AWp _ _ _ _ _ _ _
    refine awp_cond rfl (fun hc => awp_skip ?_) (fun hc => awp_exit ?_)
    · have hkl : k < out.length := by
        simp only [List.length_map, decide_eq_true_eq] at hc
        omega
      clear hc
      obtain ⟨x, hx⟩ : ∃ x, out[k]? = some x := ⟨out[k], List.getElem?_eq_getElem hkl⟩
      have hx' := ints_at hx
      show AWp _ _ _ _ _ _ _
      by_cases hm : n ∈ out.take k
      · have hg : decide (n ∈ out.take k) = true := by simpa using hm
        refine awp_seq (awp_block (awp_region ?_))
        (refine ⟨_, _, _, a_move (gd_none rfl) rfl rfl rfl rfl rfl, (by first | rfl | kernel_rfl), ?_⟩)
        (refine ⟨_, _, _, a_move (gd_none rfl) rfl rfl rfl rfl rfl, (by first | rfl | kernel_rfl), ?_⟩)
        (refine ⟨_, _, _, a_off (go_off rfl rfl rfl rfl (by first | rfl | assumption | (simp; done) | (simp [*]; done))) rfl rfl rfl, rfl, ?_⟩)
        (refine ⟨_, _, _, a_off (go_off rfl rfl rfl rfl (by first | rfl | assumption | (simp; done) | (simp [*]; done))) rfl rfl rfl, rfl, ?_⟩)
        (refine ⟨_, _, _, a_off (go_off rfl rfl rfl rfl (by first | rfl | assumption | (simp; done) | (simp [*]; done))) rfl rfl rfl, rfl, ?_⟩)
        (refine ⟨_, _, _, a_off (go_off rfl rfl rfl rfl (by first | rfl | assumption | (simp; done) | (simp [*]; done))) rfl rfl rfl, rfl, ?_⟩)
        (refine ⟨_, _, _, a_off (go_off rfl rfl rfl rfl (by first | rfl | assumption | (simp; done) | (simp [*]; done))) rfl rfl rfl, rfl, ?_⟩)
        (refine ⟨_, _, _, a_off (go_off rfl rfl rfl rfl (by first | rfl | assumption | (simp; done) | (simp [*]; done))) rfl rfl rfl, rfl, ?_⟩)
        (first | (refine ⟨_, _, _, a_pick_t (gd_none rfl) rfl rfl rfl rfl rfl ?hb rfl, rfl, ?_⟩; case hb => (first | rfl | assumption | (simp; done))) | (refine ⟨_, _, _, a_pick_f (gd_none rfl) rfl rfl rfl rfl rfl ?hb rfl, rfl, ?_⟩; case hb => (first | rfl | assumption | (simp; done))))
        (refine ⟨_, _, _, a_assign (gd_none rfl) rfl rfl rfl rfl rfl, (by first | rfl | kernel_rfl), ?_⟩)
        show AWp _ _ _ _ _ _ _
        refine awp_region ?_
        (refine ⟨_, _, _, a_move (gd_none rfl) rfl rfl rfl rfl rfl, (by first | rfl | kernel_rfl), ?_⟩)
        (refine ⟨_, _, _, a_add (gd_none rfl) rfl rfl rfl rfl rfl rfl (by first | omega | (simp only [List.length_map, List.length_append, List.length_cons, List.length_nil] <;> omega) | (simp <;> omega)), (by first | rfl | kernel_rfl), ?_⟩)
        (refine ⟨_, _, _, a_assign (gd_none rfl) rfl rfl rfl rfl rfl, (by first | rfl | kernel_rfl), ?_⟩)
        refine ⟨hkl, wk_sub ⟨rfl, rfl, rfl, rfl, rfl, ?_, rfl, trivial⟩⟩
        have : decide (n ∈ out.take (k + 1)) = true := by rw [decide_eq_true_eq, mem_take_succ hx]; exact .inl hm
        rw [this]
        rfl
      · have hg : decide (n ∈ out.take k) = false := by simpa using hm
        refine awp_seq (awp_block (awp_region ?_))
        (refine ⟨_, _, _, a_move (gd_none rfl) rfl rfl rfl rfl rfl, (by first | rfl | kernel_rfl), ?_⟩)
        (refine ⟨_, _, _, a_move (gd_none rfl) rfl rfl rfl rfl rfl, (by first | rfl | kernel_rfl), ?_⟩)
        (refine ⟨_, _, _, a_move (gd_on rfl rfl rfl rfl (by first | rfl | assumption | (simp; done))) rfl rfl rfl rfl rfl, (by first | rfl | kernel_rfl), ?_⟩)
        (refine ⟨_, _, _, a_move (gd_on rfl rfl rfl rfl (by first | rfl | assumption | (simp; done))) rfl rfl rfl rfl rfl, (by first | rfl | kernel_rfl), ?_⟩)
        (refine ⟨_, _, _, a_index (gd_on rfl rfl rfl rfl (by first | rfl | assumption | (simp; done))) rfl rfl rfl rfl rfl rfl rfl rfl rfl (by assumption) rfl (by first | assumption | exact szAll_spec rfl | exact Tm.size_all _ | exact Bd.size_all _ | exact ints_size _), (by first | rfl | kernel_rfl), ?_⟩)
        (first | (refine ⟨_, _, _, a_load_all (gd_on rfl rfl rfl rfl (by first | rfl | assumption | (simp; done))) rfl rfl rfl rfl rfl rfl rfl rfl rfl rfl rfl rfl, (by first | rfl | kernel_rfl), ?_⟩) | (refine ⟨_, _, _, a_load_tok (gd_on rfl rfl rfl rfl (by first | rfl | assumption | (simp; done))) rfl rfl rfl rfl rfl rfl rfl rfl rfl rfl rfl rfl rfl, (by first | rfl | kernel_rfl), ?_⟩) | (refine ⟨_, _, _, a_load_bp (gd_on rfl rfl rfl rfl (by first | rfl | assumption | (simp; done))) rfl rfl rfl rfl rfl rfl rfl rfl rfl rfl rfl rfl, (by first | rfl | kernel_rfl), ?_⟩) | (refine ⟨_, _, _, a_load_ad (gd_on rfl rfl rfl rfl (by first | rfl | assumption | (simp; done))) rfl rfl rfl rfl rfl rfl rfl rfl rfl, (by first | rfl | kernel_rfl), ?_⟩) | (refine ⟨_, _, _, a_load_ptr (gd_on rfl rfl rfl rfl (by first | rfl | assumption | (simp; done))) rfl rfl rfl rfl rfl rfl rfl rfl rfl, (by first | rfl | kernel_rfl), ?_⟩) | (refine ⟨_, _, _, a_load_fld (gd_on rfl rfl rfl rfl (by first | rfl | assumption | (simp; done))) rfl rfl rfl rfl rfl rfl rfl rfl rfl rfl rfl rfl rfl, (by first | rfl | kernel_rfl), ?_⟩) | (refine ⟨_, _, _, a_load_fullv (gd_on rfl rfl rfl rfl (by first | rfl | assumption | (simp; done))) rfl rfl rfl rfl rfl rfl rfl rfl rfl, (by first | rfl | kernel_rfl), ?_⟩))
        (refine ⟨_, _, _, a_move (gd_on rfl rfl rfl rfl (by first | rfl | assumption | (simp; done))) rfl rfl rfl rfl rfl, (by first | rfl | kernel_rfl), ?_⟩)
        (first | (refine ⟨_, _, _, a_eql (gd_on rfl rfl rfl rfl (by first | rfl | assumption | (simp; done))) rfl rfl rfl rfl rfl rfl, (by first | rfl | kernel_rfl), ?_⟩) | (refine ⟨_, _, _, a_beq (gd_on rfl rfl rfl rfl (by first | rfl | assumption | (simp; done))) rfl rfl rfl rfl rfl rfl rfl, (by first | rfl | kernel_rfl), ?_⟩))
        (first | (refine ⟨_, _, _, a_pick_t (gd_none rfl) rfl rfl rfl rfl rfl ?hb rfl, rfl, ?_⟩; case hb => (first | rfl | assumption | (simp; done))) | (refine ⟨_, _, _, a_pick_f (gd_none rfl) rfl rfl rfl rfl rfl ?hb rfl, rfl, ?_⟩; case hb => (first | rfl | assumption | (simp; done))))
        (refine ⟨_, _, _, a_assign (gd_none rfl) rfl rfl rfl rfl rfl, (by first | rfl | kernel_rfl), ?_⟩)
        show AWp _ _ _ _ _ _ _
        refine awp_region ?_
        (refine ⟨_, _, _, a_move (gd_none rfl) rfl rfl rfl rfl rfl, (by first | rfl | kernel_rfl), ?_⟩)
        (refine ⟨_, _, _, a_add (gd_none rfl) rfl rfl rfl rfl rfl rfl (by first | omega | (simp only [List.length_map, List.length_append, List.length_cons, List.length_nil] <;> omega) | (simp <;> omega)), (by first | rfl | kernel_rfl), ?_⟩)
        (refine ⟨_, _, _, a_assign (gd_none rfl) rfl rfl rfl rfl rfl, (by first | rfl | kernel_rfl), ?_⟩)
        refine ⟨hkl, wk_sub ⟨rfl, rfl, rfl, rfl, rfl, ?_, rfl, trivial⟩⟩
        have : decide (n ∈ out.take (k + 1)) = decide (x = n) := by rw [decide_eq_decide, mem_take_succ hx]; simp [hm]
        rw [this]
        rfl
    · have hkl : k = out.length := by
        simp only [List.length_map, decide_eq_false_iff_not] at hc
        omega
      subst hkl
      rw [List.take_length]
      show AWp _ _ _ _ _ _ _
      refine awp_seq (awp_region ?_)
      (refine ⟨_, _, _, a_move (gd_none rfl) rfl rfl rfl rfl rfl, (by first | rfl | kernel_rfl), ?_⟩)
      (refine ⟨_, _, _, a_not (gd_none rfl) rfl rfl rfl rfl rfl, (by first | rfl | kernel_rfl), ?_⟩)
      show AWp _ _ _ _ _ _ _
      refine awp_cond rfl (fun hc => ?_) (fun hc => awp_skip ?_)
      · have hm : n ∉ out := by simpa using hc
        refine awp_region ?_
        (refine ⟨_, _, _, a_move (gd_none rfl) rfl rfl rfl rfl rfl, (by first | rfl | kernel_rfl), ?_⟩)
        (refine ⟨_, _, _, a_move (gd_none rfl) rfl rfl rfl rfl rfl, (by first | rfl | kernel_rfl), ?_⟩)
        (refine ⟨_, _, _, a_bslice (gd_none rfl) rfl rfl rfl rfl rfl rfl rfl rfl rfl rfl rfl rfl rfl, (by first | rfl | kernel_rfl), ?_⟩)
        (first | (refine ⟨_, _, _, a_app (gd_none rfl) rfl rfl rfl rfl rfl rfl rfl rfl rfl rfl rfl rfl rfl rfl rfl (by first | assumption | exact szAll_spec rfl | exact Tm.size_all _ | exact Bd.size_all _ | exact ints_size _) (by first | assumption | exact szAll_spec rfl | exact Tm.size_all _ | exact Bd.size_all _ | exact ints_size _) (by first | omega | (simp only [List.length_map, List.length_append, List.length_cons, List.length_nil] <;> omega) | (simp <;> omega)), (by first | rfl | kernel_rfl), ?_⟩) | (refine ⟨_, _, _, a_app_nil (gd_none rfl) rfl rfl rfl rfl rfl rfl rfl rfl rfl rfl rfl (by first | assumption | exact szAll_spec rfl | exact Tm.size_all _ | exact Bd.size_all _ | exact ints_size _) (by first | assumption | exact szAll_spec rfl | exact Tm.size_all _ | exact Bd.size_all _ | exact ints_size _) (by first | omega | (simp only [List.length_map, List.length_append, List.length_cons, List.length_nil] <;> omega) | (simp <;> omega)), (by first | rfl | kernel_rfl), ?_⟩))
        (refine ⟨_, _, _, a_assign (gd_none rfl) rfl rfl rfl rfl rfl, (by first | rfl | kernel_rfl), ?_⟩)
        show AWp _ _ _ _ _ _ _
        refine awp_region ?_
        (refine ⟨_, _, _, a_move (gd_none rfl) rfl rfl rfl rfl rfl, (by first | rfl | kernel_rfl), ?_⟩)
        (refine ⟨_, _, _, a_add (gd_none rfl) rfl rfl rfl rfl rfl rfl (by first | omega | (simp only [List.length_map, List.length_append, List.length_cons, List.length_nil] <;> omega) | (simp <;> omega)), (by first | rfl | kernel_rfl), ?_⟩)
        (refine ⟨_, _, _, a_assign (gd_none rfl) rfl rfl rfl rfl rfl, (by first | rfl | kernel_rfl), ?_⟩)
        refine ⟨hil, Wk.trans (wk_sub (s' := [(3, .val (.lst (l.map Tm.cv))), (4, .own (.lst ((varsF (l.take (i + 1))).map CV.i)) 300049), (300049, .tok 3 1), (5, .val (.i ((i + 1 : Nat) : Int)))]) ⟨rfl, ?_, rfl, rfl, trivial⟩) (wk_ren 300049 200049 rfl rfl rfl rfl)⟩
        have : varsF (l.take (i + 1)) = out ++ [n] := by
          rw [htk, varsF_snoc, ← ho]
          unfold varS
          rw [if_pos hsf, ← hn, if_neg hm]
        rw [this, List.map_append]
        rfl
      · have hm : n ∈ out := by simpa using hc
        show AWp _ _ _ _ _ _ _
        refine awp_region ?_
        (refine ⟨_, _, _, a_move (gd_none rfl) rfl rfl rfl rfl rfl, (by first | rfl | kernel_rfl), ?_⟩)
        (refine ⟨_, _, _, a_add (gd_none rfl) rfl rfl rfl rfl rfl rfl (by first | omega | (simp only [List.length_map, List.length_append, List.length_cons, List.length_nil] <;> omega) | (simp <;> omega)), (by first | rfl | kernel_rfl), ?_⟩)
        (refine ⟨_, _, _, a_assign (gd_none rfl) rfl rfl rfl rfl rfl, (by first | rfl | kernel_rfl), ?_⟩)
        refine ⟨hil, wk_sub ⟨rfl, ?_, rfl, rfl, trivial⟩⟩
        have : varsF (l.take (i + 1)) = out := by
          rw [htk, varsF_snoc, ← ho]
          unfold varS
          rw [if_pos hsf, ← hn, if_pos hm]
        rw [this]
        rfl
  · have hil : i = l.length := by
      simp only [List.length_map, decide_eq_false_iff_not] at hc
      omega
    subst hil
    rw [List.take_length]
    show AWp _ _ _ _ _ _ _
    refine awp_seq (awp_region ?_)
    (refine ⟨_, _, _, a_move (gd_none rfl) rfl rfl rfl rfl rfl, (by first | rfl | kernel_rfl), ?_⟩)
    (refine ⟨_, _, _, a_assign (gd_none rfl) rfl rfl rfl rfl rfl, (by first | rfl | kernel_rfl), ?_⟩)
    show AWp _ _ _ _ _ _ _
    exact awp_ret (And.intro (.inr rfl) rfl)
end Go.Proofs.Ytgmllfjidhbjjaa

namespace Go.Proofs.Ytgmllfjidhbjjaa
open Go.RowKit
set_option linter.unusedVariables false
set_option linter.unusedSimpArgs false
set_option maxRecDepth 100000

set_option maxHeartbeats 1000000 in
-- 
theorem of_abs (W : World) : ∀ (t : Tm), t.ok → AFun Try.prog W 12 [t.cw] (.val t.cw) := by
  intro t
  induction t using Tm.ind with
  | h f l ih =>
  intro hok
  obtain ⟨hl, hok⟩ := (Tm.ok_iff _).1 hok
  simp only at hl hok
  refine afun_of (rs := [Tm.cw ⟨f, l⟩]) Try.func12 Try.ntmps12 rfl rfl rfl rfl ?_
  intro w U hW
  refine awp_seq (awp_region ?_)
  (refine ⟨_, _, _, a_box (gd_none rfl) rfl rfl rfl rfl rfl, (by first | rfl | kernel_rfl), ?_⟩)
  (refine ⟨_, _, _, a_alloc (gd_none rfl) rfl rfl rfl rfl rfl rfl rfl rfl rfl rfl, (by first | rfl | kernel_rfl), ?_⟩)
  show AWp _ _ _ _ _ _ _
  refine awp_seq (awp_region ?_)
  (first | (refine ⟨_, _, _, a_field_bp (gd_none rfl) rfl rfl rfl rfl rfl rfl rfl rfl rfl, (by first | rfl | kernel_rfl), ?_⟩) | (refine ⟨_, _, _, a_field_ad (gd_none rfl) rfl rfl rfl rfl rfl rfl rfl rfl rfl rfl rfl, (by first | rfl | kernel_rfl), ?_⟩) | (refine ⟨_, _, _, a_fieldM (gd_none rfl) rfl rfl rfl rfl rfl rfl rfl rfl rfl, (by first | rfl | kernel_rfl), ?_⟩))
  (first | (refine ⟨_, _, _, a_load_all (gd_none rfl) rfl rfl rfl rfl rfl rfl rfl rfl rfl rfl rfl rfl, (by first | rfl | kernel_rfl), ?_⟩) | (refine ⟨_, _, _, a_load_tok (gd_none rfl) rfl rfl rfl rfl rfl rfl rfl rfl rfl rfl rfl rfl rfl, (by first | rfl | kernel_rfl), ?_⟩) | (refine ⟨_, _, _, a_load_bp (gd_none rfl) rfl rfl rfl rfl rfl rfl rfl rfl rfl rfl rfl rfl, (by first | rfl | kernel_rfl), ?_⟩) | (refine ⟨_, _, _, a_load_ad (gd_none rfl) rfl rfl rfl rfl rfl rfl rfl rfl rfl, (by first | rfl | kernel_rfl), ?_⟩) | (refine ⟨_, _, _, a_load_ptr (gd_none rfl) rfl rfl rfl rfl rfl rfl rfl rfl rfl, (by first | rfl | kernel_rfl), ?_⟩) | (refine ⟨_, _, _, a_load_fld (gd_none rfl) rfl rfl rfl rfl rfl rfl rfl rfl rfl rfl rfl rfl rfl, (by first | rfl | kernel_rfl), ?_⟩) | (refine ⟨_, _, _, a_load_fullv (gd_none rfl) rfl rfl rfl rfl rfl rfl rfl rfl rfl, (by first | rfl | kernel_rfl), ?_⟩))
  (refine ⟨_, _, _, a_build (gd_none rfl) rfl rfl rfl rfl rfl rfl rfl rfl rfl rfl rfl, (by first | rfl | kernel_rfl), ?_⟩)
  (refine ⟨_, _, _, a_alloc (gd_none rfl) rfl rfl rfl rfl rfl rfl rfl rfl rfl rfl, (by first | rfl | kernel_rfl), ?_⟩)
  (first | (refine ⟨_, _, _, a_store_all (gd_none rfl) rfl rfl rfl rfl rfl rfl rfl rfl rfl rfl, (by first | rfl | kernel_rfl), ?_⟩) | (refine ⟨_, _, _, a_store (gd_none rfl) rfl rfl rfl rfl rfl rfl rfl rfl rfl rfl, (by first | rfl | kernel_rfl), ?_⟩) | (refine ⟨_, _, _, a_store_fld (gd_none rfl) rfl rfl rfl rfl rfl rfl rfl rfl rfl rfl rfl rfl, (by first | rfl | kernel_rfl), ?_⟩))
  show AWp _ _ _ _ _ _ _
  refine awp_seq (awp_seq (awp_region ?_))
  (refine ⟨_, _, _, a_assign (gd_none rfl) rfl rfl rfl rfl rfl, (by first | rfl | kernel_rfl), ?_⟩)
  show AWp _ _ _ _ _ _ _
  refine awp_block (awp_count l.length (fun k => [(1, .bp 1 0 []), (100001, .bx (Tm.cw ⟨f, l⟩)), (2, .bp 2 0 []), (100002, ⟨5, .row [.i 0, .lst []], 1, 0, [1]⟩), (3, .bp 3 0 []), (100003, ⟨5, .row [.i f, .lst ((l.take k).map Tm.cv)], 200024, 0, [1]⟩), (200024, .tok 33 2), (4, .val (.i k))])
    ((wk_nil 100003 200024 33 2 rfl rfl rfl rfl rfl rfl rfl).trans (wk_sub ⟨rfl, rfl, rfl, rfl, rfl, rfl, rfl, rfl, trivial⟩)) ?_)
  intro k hk
  refine awp_seq (awp_seq (awp_region ?_))
  (refine ⟨_, _, _, a_move (gd_none rfl) rfl rfl rfl rfl rfl, (by first | rfl | kernel_rfl), ?_⟩)
  (first | (refine ⟨_, _, _, a_field_bp (gd_none rfl) rfl rfl rfl rfl rfl rfl rfl rfl rfl, (by first | rfl | kernel_rfl), ?_⟩) | (refine ⟨_, _, _, a_field_ad (gd_none rfl) rfl rfl rfl rfl rfl rfl rfl rfl rfl rfl rfl, (by first | rfl | kernel_rfl), ?_⟩) | (refine ⟨_, _, _, a_fieldM (gd_none rfl) rfl rfl rfl rfl rfl rfl rfl rfl rfl, (by first | rfl | kernel_rfl), ?_⟩))
  (first | (refine ⟨_, _, _, a_load_all (gd_none rfl) rfl rfl rfl rfl rfl rfl rfl rfl rfl rfl rfl rfl, (by first | rfl | kernel_rfl), ?_⟩) | (refine ⟨_, _, _, a_load_tok (gd_none rfl) rfl rfl rfl rfl rfl rfl rfl rfl rfl rfl rfl rfl rfl, (by first | rfl | kernel_rfl), ?_⟩) | (refine ⟨_, _, _, a_load_bp (gd_none rfl) rfl rfl rfl rfl rfl rfl rfl rfl rfl rfl rfl rfl, (by first | rfl | kernel_rfl), ?_⟩) | (refine ⟨_, _, _, a_load_ad (gd_none rfl) rfl rfl rfl rfl rfl rfl rfl rfl rfl, (by first | rfl | kernel_rfl), ?_⟩) | (refine ⟨_, _, _, a_load_ptr (gd_none rfl) rfl rfl rfl rfl rfl rfl rfl rfl rfl, (by first | rfl | kernel_rfl), ?_⟩) | (refine ⟨_, _, _, a_load_fld (gd_none rfl) rfl rfl rfl rfl rfl rfl rfl rfl rfl rfl rfl rfl rfl, (by first | rfl | kernel_rfl), ?_⟩) | (refine ⟨_, _, _, a_load_fullv (gd_none rfl) rfl rfl rfl rfl rfl rfl rfl rfl rfl, (by first | rfl | kernel_rfl), ?_⟩))
  (first | (refine ⟨_, _, _, a_len (gd_none rfl) rfl rfl rfl rfl rfl rfl rfl, (by first | rfl | kernel_rfl), ?_⟩) | (refine ⟨_, _, _, a_lenM (gd_none rfl) rfl rfl rfl rfl rfl rfl rfl, (by first | rfl | kernel_rfl), ?_⟩))
  (refine ⟨_, _, _, a_lss (gd_none rfl) rfl rfl rfl rfl rfl rfl, (by first | rfl | kernel_rfl), ?_⟩)
  show AWp _ _ _ _ _ _ _
  refine awp_cond rfl (fun hc => ?_) (fun hc => ?_)
  · simp only [List.length_map, decide_eq_true_eq] at hc
    have hkl : k < l.length := by omega
    obtain ⟨t, ht⟩ : ∃ t, l[k]? = some t := ⟨l[k], List.getElem?_eq_getElem hkl⟩
    refine awp_skip ?_
    show AWp _ _ _ _ _ _ _
    refine awp_seq (awp_block (awp_draw (by kernel_rfl) (by kernel_rfl) ?_))
    (first | (refine ⟨_, _, _, a_field_bp (gd_none rfl) rfl rfl rfl rfl rfl rfl rfl rfl rfl, (by first | rfl | kernel_rfl), ?_⟩) | (refine ⟨_, _, _, a_field_ad (gd_none rfl) rfl rfl rfl rfl rfl rfl rfl rfl rfl rfl rfl, (by first | rfl | kernel_rfl), ?_⟩) | (refine ⟨_, _, _, a_fieldM (gd_none rfl) rfl rfl rfl rfl rfl rfl rfl rfl rfl, (by first | rfl | kernel_rfl), ?_⟩))
    (first | (refine ⟨_, _, _, a_load_all (gd_none rfl) rfl rfl rfl rfl rfl rfl rfl rfl rfl rfl rfl rfl, (by first | rfl | kernel_rfl), ?_⟩) | (refine ⟨_, _, _, a_load_tok (gd_none rfl) rfl rfl rfl rfl rfl rfl rfl rfl rfl rfl rfl rfl rfl, (by first | rfl | kernel_rfl), ?_⟩) | (refine ⟨_, _, _, a_load_bp (gd_none rfl) rfl rfl rfl rfl rfl rfl rfl rfl rfl rfl rfl rfl, (by first | rfl | kernel_rfl), ?_⟩) | (refine ⟨_, _, _, a_load_ad (gd_none rfl) rfl rfl rfl rfl rfl rfl rfl rfl rfl, (by first | rfl | kernel_rfl), ?_⟩) | (refine ⟨_, _, _, a_load_ptr (gd_none rfl) rfl rfl rfl rfl rfl rfl rfl rfl rfl, (by first | rfl | kernel_rfl), ?_⟩) | (refine ⟨_, _, _, a_load_fld (gd_none rfl) rfl rfl rfl rfl rfl rfl rfl rfl rfl rfl rfl rfl rfl, (by first | rfl | kernel_rfl), ?_⟩) | (refine ⟨_, _, _, a_load_fullv (gd_none rfl) rfl rfl rfl rfl rfl rfl rfl rfl rfl, (by first | rfl | kernel_rfl), ?_⟩))
    (first | (refine ⟨_, _, _, a_field_bp (gd_none rfl) rfl rfl rfl rfl rfl rfl rfl rfl rfl, (by first | rfl | kernel_rfl), ?_⟩) | (refine ⟨_, _, _, a_field_ad (gd_none rfl) rfl rfl rfl rfl rfl rfl rfl rfl rfl rfl rfl, (by first | rfl | kernel_rfl), ?_⟩) | (refine ⟨_, _, _, a_fieldM (gd_none rfl) rfl rfl rfl rfl rfl rfl rfl rfl rfl, (by first | rfl | kernel_rfl), ?_⟩))
    (first | (refine ⟨_, _, _, a_load_all (gd_none rfl) rfl rfl rfl rfl rfl rfl rfl rfl rfl rfl rfl rfl, (by first | rfl | kernel_rfl), ?_⟩) | (refine ⟨_, _, _, a_load_tok (gd_none rfl) rfl rfl rfl rfl rfl rfl rfl rfl rfl rfl rfl rfl rfl, (by first | rfl | kernel_rfl), ?_⟩) | (refine ⟨_, _, _, a_load_bp (gd_none rfl) rfl rfl rfl rfl rfl rfl rfl rfl rfl rfl rfl rfl, (by first | rfl | kernel_rfl), ?_⟩) | (refine ⟨_, _, _, a_load_ad (gd_none rfl) rfl rfl rfl rfl rfl rfl rfl rfl rfl, (by first | rfl | kernel_rfl), ?_⟩) | (refine ⟨_, _, _, a_load_ptr (gd_none rfl) rfl rfl rfl rfl rfl rfl rfl rfl rfl, (by first | rfl | kernel_rfl), ?_⟩) | (refine ⟨_, _, _, a_load_fld (gd_none rfl) rfl rfl rfl rfl rfl rfl rfl rfl rfl rfl rfl rfl rfl, (by first | rfl | kernel_rfl), ?_⟩) | (refine ⟨_, _, _, a_load_fullv (gd_none rfl) rfl rfl rfl rfl rfl rfl rfl rfl rfl, (by first | rfl | kernel_rfl), ?_⟩))
    (refine ⟨_, _, _, a_move (gd_none rfl) rfl rfl rfl rfl rfl, (by first | rfl | kernel_rfl), ?_⟩)
    (refine ⟨_, _, _, a_index (j := _) (gd_none rfl) rfl rfl rfl rfl rfl rfl rfl rfl rfl (Tm.map_at ht) rfl (Tm.size_all l), (by first | rfl | kernel_rfl), ?_⟩)
    (first | (refine ⟨_, _, _, a_load_all (gd_none rfl) rfl rfl rfl rfl rfl rfl rfl rfl rfl rfl rfl rfl, (by first | rfl | kernel_rfl), ?_⟩) | (refine ⟨_, _, _, a_load_tok (gd_none rfl) rfl rfl rfl rfl rfl rfl rfl rfl rfl rfl rfl rfl rfl, (by first | rfl | kernel_rfl), ?_⟩) | (refine ⟨_, _, _, a_load_bp (gd_none rfl) rfl rfl rfl rfl rfl rfl rfl rfl rfl rfl rfl rfl, (by first | rfl | kernel_rfl), ?_⟩) | (refine ⟨_, _, _, a_load_ad (gd_none rfl) rfl rfl rfl rfl rfl rfl rfl rfl rfl, (by first | rfl | kernel_rfl), ?_⟩) | (refine ⟨_, _, _, a_load_ptr (gd_none rfl) rfl rfl rfl rfl rfl rfl rfl rfl rfl, (by first | rfl | kernel_rfl), ?_⟩) | (refine ⟨_, _, _, a_load_fld (gd_none rfl) rfl rfl rfl rfl rfl rfl rfl rfl rfl rfl rfl rfl rfl, (by first | rfl | kernel_rfl), ?_⟩) | (refine ⟨_, _, _, a_load_fullv (gd_none rfl) rfl rfl rfl rfl rfl rfl rfl rfl rfl, (by first | rfl | kernel_rfl), ?_⟩))
    (refine ⟨_, _, _, a_call (gd_none rfl) rfl rfl rfl rfl rfl ((ih t (List.mem_of_getElem? ht) (hok t (List.mem_of_getElem? ht))).up hW), (by first | rfl | kernel_rfl), ?_⟩)
    (refine ⟨_, _, _, a_bslice (gd_none rfl) rfl rfl rfl rfl rfl rfl rfl rfl rfl rfl rfl rfl rfl, (by first | rfl | kernel_rfl), ?_⟩)
    (first | (refine ⟨_, _, _, a_app (gd_none rfl) rfl rfl rfl rfl rfl rfl rfl rfl rfl rfl rfl rfl rfl rfl rfl (by first | assumption | exact szAll_spec rfl | exact Tm.size_all _ | exact Bd.size_all _ | exact ints_size _) (by first | assumption | exact szAll_spec rfl | exact Tm.size_all _ | exact Bd.size_all _ | exact ints_size _) (by first | omega | (simp only [List.length_map, List.length_append, List.length_cons, List.length_nil] <;> omega) | (simp <;> omega)), (by first | rfl | kernel_rfl), ?_⟩) | (refine ⟨_, _, _, a_app_nil (gd_none rfl) rfl rfl rfl rfl rfl rfl rfl rfl rfl rfl rfl (by first | assumption | exact szAll_spec rfl | exact Tm.size_all _ | exact Bd.size_all _ | exact ints_size _) (by first | assumption | exact szAll_spec rfl | exact Tm.size_all _ | exact Bd.size_all _ | exact ints_size _) (by first | omega | (simp only [List.length_map, List.length_append, List.length_cons, List.length_nil] <;> omega) | (simp <;> omega)), (by first | rfl | kernel_rfl), ?_⟩))
    (first | (refine ⟨_, _, _, a_field_bp (gd_none rfl) rfl rfl rfl rfl rfl rfl rfl rfl rfl, (by first | rfl | kernel_rfl), ?_⟩) | (refine ⟨_, _, _, a_field_ad (gd_none rfl) rfl rfl rfl rfl rfl rfl rfl rfl rfl rfl rfl, (by first | rfl | kernel_rfl), ?_⟩) | (refine ⟨_, _, _, a_fieldM (gd_none rfl) rfl rfl rfl rfl rfl rfl rfl rfl rfl, (by first | rfl | kernel_rfl), ?_⟩))
    (first | (refine ⟨_, _, _, a_store_all (gd_none rfl) rfl rfl rfl rfl rfl rfl rfl rfl rfl rfl, (by first | rfl | kernel_rfl), ?_⟩) | (refine ⟨_, _, _, a_store (gd_none rfl) rfl rfl rfl rfl rfl rfl rfl rfl rfl rfl, (by first | rfl | kernel_rfl), ?_⟩) | (refine ⟨_, _, _, a_store_fld (gd_none rfl) rfl rfl rfl rfl rfl rfl rfl rfl rfl rfl rfl rfl, (by first | rfl | kernel_rfl), ?_⟩))
    refine ⟨by kernel_rfl, ?_⟩
    show AWp _ _ _ _ _ _ _
    refine awp_region ?_
    (refine ⟨_, _, _, a_move (gd_none rfl) rfl rfl rfl rfl rfl, (by first | rfl | kernel_rfl), ?_⟩)
    (refine ⟨_, _, _, a_add (gd_none rfl) rfl rfl rfl rfl rfl rfl (by first | omega | (simp only [List.length_map, List.length_append, List.length_cons, List.length_nil] <;> omega) | (simp <;> omega)), (by first | rfl | kernel_rfl), ?_⟩)
    (refine ⟨_, _, _, a_assign (gd_none rfl) rfl rfl rfl rfl rfl, (by first | rfl | kernel_rfl), ?_⟩)
    refine ⟨hkl, Wk.trans (wk_sub (s' := [(1, .bp 1 0 []), (100001, .bx (Tm.cw ⟨f, l⟩)), (2, .bp 2 0 []), (100002, ⟨5, .row [.i 0, .lst []], 1, 0, [1]⟩), (3, .bp 3 0 []), (100003, ⟨5, .row [.i f, .lst ((l.take (k + 1)).map Tm.cv)], 300024, 0, [1]⟩), (300024, .tok 33 2), (4, .val (.i ((k + 1 : Nat) : Int)))]) ⟨rfl, rfl, rfl, rfl, rfl, ?_, rfl, rfl, trivial⟩) (wk_ren 300024 200024 rfl rfl rfl rfl)⟩
    rw [List.take_add_one, ht, List.map_append]
    simp only [Option.toList_some, List.map_cons, List.map_nil, Tm.cv_eq]
    rfl
  · refine awp_exit ?_
    show AWp _ _ _ _ _ _ _
    have hkl : k = l.length := by
      simp only [List.length_map, decide_eq_false_iff_not] at hc
      omega
    subst hkl
    rw [List.take_length]
    refine awp_seq (awp_region ?_)
    (first | (refine ⟨_, _, _, a_load_all (gd_none rfl) rfl rfl rfl rfl rfl rfl rfl rfl rfl rfl rfl rfl, (by first | rfl | kernel_rfl), ?_⟩) | (refine ⟨_, _, _, a_load_tok (gd_none rfl) rfl rfl rfl rfl rfl rfl rfl rfl rfl rfl rfl rfl rfl, (by first | rfl | kernel_rfl), ?_⟩) | (refine ⟨_, _, _, a_load_bp (gd_none rfl) rfl rfl rfl rfl rfl rfl rfl rfl rfl rfl rfl rfl, (by first | rfl | kernel_rfl), ?_⟩) | (refine ⟨_, _, _, a_load_ad (gd_none rfl) rfl rfl rfl rfl rfl rfl rfl rfl rfl, (by first | rfl | kernel_rfl), ?_⟩) | (refine ⟨_, _, _, a_load_ptr (gd_none rfl) rfl rfl rfl rfl rfl rfl rfl rfl rfl, (by first | rfl | kernel_rfl), ?_⟩) | (refine ⟨_, _, _, a_load_fld (gd_none rfl) rfl rfl rfl rfl rfl rfl rfl rfl rfl rfl rfl rfl rfl, (by first | rfl | kernel_rfl), ?_⟩) | (refine ⟨_, _, _, a_load_fullv (gd_none rfl) rfl rfl rfl rfl rfl rfl rfl rfl rfl, (by first | rfl | kernel_rfl), ?_⟩))
    (first | (refine ⟨_, _, _, a_store_all (gd_none rfl) rfl rfl rfl rfl rfl rfl rfl rfl rfl rfl, (by first | rfl | kernel_rfl), ?_⟩) | (refine ⟨_, _, _, a_store (gd_none rfl) rfl rfl rfl rfl rfl rfl rfl rfl rfl rfl, (by first | rfl | kernel_rfl), ?_⟩) | (refine ⟨_, _, _, a_store_fld (gd_none rfl) rfl rfl rfl rfl rfl rfl rfl rfl rfl rfl rfl rfl, (by first | rfl | kernel_rfl), ?_⟩))
    show AWp _ _ _ _ _ _ _
    exact awp_ret ⟨.inr rfl, rfl⟩
end Go.Proofs.Ytgmllfjidhbjjaa

namespace Go.Proofs.Ytgmllfjidhbjjaa
open Go.RowKit
set_option linter.unusedVariables false
set_option linter.unusedSimpArgs false
set_option maxRecDepth 100000

-- 
set_option maxHeartbeats 1000000 in
theorem of7_abs (W : World) (l : List Bd) (hl : l.length ≤ 1000000) (hok : ∀ b ∈ l, b.t.ok) : AFun Try.prog W 23 [.lst (l.map Bd.cv)] (.val (.lst (l.map Bd.cv))) := by
  have hsz := Bd.size_all l
  refine afun_of (rs := [.lst (l.map Bd.cv)]) Try.func23 Try.ntmps23 rfl rfl rfl rfl ?_
  intro w U hW
  refine awp_seq (awp_region ?_)
  (refine ⟨_, _, _, a_assign (gd_none rfl) rfl rfl rfl rfl rfl, (by first | rfl | kernel_rfl), ?_⟩)
  show AWp _ _ _ _ _ _ _
  refine awp_seq (awp_region ?_)
  (refine ⟨_, _, _, a_assign (gd_none rfl) rfl rfl rfl rfl rfl, (by first | rfl | kernel_rfl), ?_⟩)
  show AWp _ _ _ _ _ _ _
  refine awp_seq (awp_seq (awp_region ?_))
  (refine ⟨_, _, _, a_assign (gd_none rfl) rfl rfl rfl rfl rfl, (by first | rfl | kernel_rfl), ?_⟩)
  show AWp _ _ _ _ _ _ _
  refine awp_block (awp_count l.length (fun k => [(0, .val (.lst (l.map Bd.cv))), (3, .own (.lst ((l.take k).map Bd.cv)) 200025), (200025, .tok 61 3), (4, .val (.i k))])
    ((wk_nil 3 200025 61 3 rfl rfl rfl rfl rfl rfl rfl).trans (wk_sub ⟨rfl, rfl, rfl, rfl, trivial⟩)) ?_)
  intro k hk
  refine awp_seq (awp_seq (awp_region ?_))
  (refine ⟨_, _, _, a_move (gd_none rfl) rfl rfl rfl rfl rfl, (by first | rfl | kernel_rfl), ?_⟩)
  (refine ⟨_, _, _, a_move (gd_none rfl) rfl rfl rfl rfl rfl, (by first | rfl | kernel_rfl), ?_⟩)
  (first | (refine ⟨_, _, _, a_len (gd_none rfl) rfl rfl rfl rfl rfl rfl rfl, (by first | rfl | kernel_rfl), ?_⟩) | (refine ⟨_, _, _, a_lenM (gd_none rfl) rfl rfl rfl rfl rfl rfl rfl, (by first | rfl | kernel_rfl), ?_⟩))
  (refine ⟨_, _, _, a_lss (gd_none rfl) rfl rfl rfl rfl rfl rfl, (by first | rfl | kernel_rfl), ?_⟩)
  show AWp _ _ _ _ _ _ _
  refine awp_cond rfl (fun hc => awp_skip ?_) (fun hc => awp_exit ?_)
  · have hkl : k < l.length := by
      simp only [List.length_map, decide_eq_true_eq] at hc
      omega
    clear hc
    obtain ⟨b, hb⟩ : ∃ b, l[k]? = some b := ⟨l[k], List.getElem?_eq_getElem hkl⟩
    have hb' := Bd.map_at hb
    show AWp _ _ _ _ _ _ _
    refine awp_seq (awp_block (awp_draw (by kernel_rfl) (by kernel_rfl) ?_))
    (refine ⟨_, _, _, a_move (gd_none rfl) rfl rfl rfl rfl rfl, (by first | rfl | kernel_rfl), ?_⟩)
    (refine ⟨_, _, _, a_move (gd_none rfl) rfl rfl rfl rfl rfl, (by first | rfl | kernel_rfl), ?_⟩)
    (refine ⟨_, _, _, a_move (gd_none rfl) rfl rfl rfl rfl rfl, (by first | rfl | kernel_rfl), ?_⟩)
    (refine ⟨_, _, _, a_index (gd_none rfl) rfl rfl rfl rfl rfl rfl rfl rfl rfl (by assumption) rfl (by first | assumption | exact szAll_spec rfl | exact Tm.size_all _ | exact Bd.size_all _ | exact ints_size _), (by first | rfl | kernel_rfl), ?_⟩)
    (first | (refine ⟨_, _, _, a_field_bp (gd_none rfl) rfl rfl rfl rfl rfl rfl rfl rfl rfl, (by first | rfl | kernel_rfl), ?_⟩) | (refine ⟨_, _, _, a_field_ad (gd_none rfl) rfl rfl rfl rfl rfl rfl rfl rfl rfl rfl rfl, (by first | rfl | kernel_rfl), ?_⟩) | (refine ⟨_, _, _, a_fieldM (gd_none rfl) rfl rfl rfl rfl rfl rfl rfl rfl rfl, (by first | rfl | kernel_rfl), ?_⟩))
    (first | (refine ⟨_, _, _, a_load_all (gd_none rfl) rfl rfl rfl rfl rfl rfl rfl rfl rfl rfl rfl rfl, (by first | rfl | kernel_rfl), ?_⟩) | (refine ⟨_, _, _, a_load_tok (gd_none rfl) rfl rfl rfl rfl rfl rfl rfl rfl rfl rfl rfl rfl rfl, (by first | rfl | kernel_rfl), ?_⟩) | (refine ⟨_, _, _, a_load_bp (gd_none rfl) rfl rfl rfl rfl rfl rfl rfl rfl rfl rfl rfl rfl, (by first | rfl | kernel_rfl), ?_⟩) | (refine ⟨_, _, _, a_load_ad (gd_none rfl) rfl rfl rfl rfl rfl rfl rfl rfl rfl, (by first | rfl | kernel_rfl), ?_⟩) | (refine ⟨_, _, _, a_load_ptr (gd_none rfl) rfl rfl rfl rfl rfl rfl rfl rfl rfl, (by first | rfl | kernel_rfl), ?_⟩) | (refine ⟨_, _, _, a_load_fld (gd_none rfl) rfl rfl rfl rfl rfl rfl rfl rfl rfl rfl rfl rfl rfl, (by first | rfl | kernel_rfl), ?_⟩) | (refine ⟨_, _, _, a_load_fullv (gd_none rfl) rfl rfl rfl rfl rfl rfl rfl rfl rfl, (by first | rfl | kernel_rfl), ?_⟩))
    (refine ⟨_, _, _, a_move (gd_none rfl) rfl rfl rfl rfl rfl, (by first | rfl | kernel_rfl), ?_⟩)
    (refine ⟨_, _, _, a_move (gd_none rfl) rfl rfl rfl rfl rfl, (by first | rfl | kernel_rfl), ?_⟩)
    (refine ⟨_, _, _, a_index (gd_none rfl) rfl rfl rfl rfl rfl rfl rfl rfl rfl (by assumption) rfl (by first | assumption | exact szAll_spec rfl | exact Tm.size_all _ | exact Bd.size_all _ | exact ints_size _), (by first | rfl | kernel_rfl), ?_⟩)
    (first | (refine ⟨_, _, _, a_field_bp (gd_none rfl) rfl rfl rfl rfl rfl rfl rfl rfl rfl, (by first | rfl | kernel_rfl), ?_⟩) | (refine ⟨_, _, _, a_field_ad (gd_none rfl) rfl rfl rfl rfl rfl rfl rfl rfl rfl rfl rfl, (by first | rfl | kernel_rfl), ?_⟩) | (refine ⟨_, _, _, a_fieldM (gd_none rfl) rfl rfl rfl rfl rfl rfl rfl rfl rfl, (by first | rfl | kernel_rfl), ?_⟩))
    (first | (refine ⟨_, _, _, a_load_all (gd_none rfl) rfl rfl rfl rfl rfl rfl rfl rfl rfl rfl rfl rfl, (by first | rfl | kernel_rfl), ?_⟩) | (refine ⟨_, _, _, a_load_tok (gd_none rfl) rfl rfl rfl rfl rfl rfl rfl rfl rfl rfl rfl rfl rfl, (by first | rfl | kernel_rfl), ?_⟩) | (refine ⟨_, _, _, a_load_bp (gd_none rfl) rfl rfl rfl rfl rfl rfl rfl rfl rfl rfl rfl rfl, (by first | rfl | kernel_rfl), ?_⟩) | (refine ⟨_, _, _, a_load_ad (gd_none rfl) rfl rfl rfl rfl rfl rfl rfl rfl rfl, (by first | rfl | kernel_rfl), ?_⟩) | (refine ⟨_, _, _, a_load_ptr (gd_none rfl) rfl rfl rfl rfl rfl rfl rfl rfl rfl, (by first | rfl | kernel_rfl), ?_⟩) | (refine ⟨_, _, _, a_load_fld (gd_none rfl) rfl rfl rfl rfl rfl rfl rfl rfl rfl rfl rfl rfl rfl, (by first | rfl | kernel_rfl), ?_⟩) | (refine ⟨_, _, _, a_load_fullv (gd_none rfl) rfl rfl rfl rfl rfl rfl rfl rfl rfl, (by first | rfl | kernel_rfl), ?_⟩))
    (refine ⟨_, _, _, a_call (gd_none rfl) rfl rfl rfl rfl rfl (of_abs w b.t (hok b (List.mem_of_getElem? hb))), (by first | rfl | kernel_rfl), ?_⟩)
    (refine ⟨_, _, _, a_build (gd_none rfl) rfl rfl rfl rfl rfl rfl rfl rfl rfl rfl rfl, (by first | rfl | kernel_rfl), ?_⟩)
    (refine ⟨_, _, _, a_bslice (gd_none rfl) rfl rfl rfl rfl rfl rfl rfl rfl rfl rfl rfl rfl rfl, (by first | rfl | kernel_rfl), ?_⟩)
    (first | (refine ⟨_, _, _, a_app (gd_none rfl) rfl rfl rfl rfl rfl rfl rfl rfl rfl rfl rfl rfl rfl rfl rfl (by first | assumption | exact szAll_spec rfl | exact Tm.size_all _ | exact Bd.size_all _ | exact ints_size _) (by first | assumption | exact szAll_spec rfl | exact Tm.size_all _ | exact Bd.size_all _ | exact ints_size _) (by first | omega | (simp only [List.length_map, List.length_append, List.length_cons, List.length_nil] <;> omega) | (simp <;> omega)), (by first | rfl | kernel_rfl), ?_⟩) | (refine ⟨_, _, _, a_app_nil (gd_none rfl) rfl rfl rfl rfl rfl rfl rfl rfl rfl rfl rfl (by first | assumption | exact szAll_spec rfl | exact Tm.size_all _ | exact Bd.size_all _ | exact ints_size _) (by first | assumption | exact szAll_spec rfl | exact Tm.size_all _ | exact Bd.size_all _ | exact ints_size _) (by first | omega | (simp only [List.length_map, List.length_append, List.length_cons, List.length_nil] <;> omega) | (simp <;> omega)), (by first | rfl | kernel_rfl), ?_⟩))
    (refine ⟨_, _, _, a_assign (gd_none rfl) rfl rfl rfl rfl rfl, (by first | rfl | kernel_rfl), ?_⟩)
    refine ⟨by kernel_rfl, ?_⟩
    show AWp _ _ _ _ _ _ _
    refine awp_region ?_
    (refine ⟨_, _, _, a_move (gd_none rfl) rfl rfl rfl rfl rfl, (by first | rfl | kernel_rfl), ?_⟩)
    (refine ⟨_, _, _, a_add (gd_none rfl) rfl rfl rfl rfl rfl rfl (by first | omega | (simp only [List.length_map, List.length_append, List.length_cons, List.length_nil] <;> omega) | (simp <;> omega)), (by first | rfl | kernel_rfl), ?_⟩)
    (refine ⟨_, _, _, a_assign (gd_none rfl) rfl rfl rfl rfl rfl, (by first | rfl | kernel_rfl), ?_⟩)
    refine ⟨hkl, Wk.trans (wk_sub (s' := [(0, .val (.lst (l.map Bd.cv))), (3, .own (.lst ((l.take (k + 1)).map Bd.cv)) 300025), (300025, .tok 61 3), (4, .val (.i ((k + 1 : Nat) : Int)))]) ⟨rfl, ?_, rfl, rfl, trivial⟩) (wk_ren 300025 200025 rfl rfl rfl rfl)⟩
    rw [List.take_add_one, hb, List.map_append]
    rfl
  · have hkl : k = l.length := by
      simp only [List.length_map, decide_eq_false_iff_not] at hc
      omega
    subst hkl
    rw [List.take_length]
    show AWp _ _ _ _ _ _ _
    refine awp_seq (awp_region ?_)
    (refine ⟨_, _, _, a_move (gd_none rfl) rfl rfl rfl rfl rfl, (by first | rfl | kernel_rfl), ?_⟩)
    (refine ⟨_, _, _, a_assign (gd_none rfl) rfl rfl rfl rfl rfl, (by first | rfl | kernel_rfl), ?_⟩)
    show AWp _ _ _ _ _ _ _
    exact awp_ret (And.intro (.inr rfl) rfl)

def fineBd (b : Bd) : Bool := decide (0 ≤ b.v) && (decide (b.v ≤ 1000) && decide (0 ≤ smallT b.t 20 10))
def fine7B (l : List Bd) : Bool := l.all fineBd && decide (l.length ≤ 8)
theorem fine7_no {l : List Bd} {b : Bd} (hb : b ∈ l) (h : fineBd b = false) : fine7B l = false := by
  unfold fine7B
  have : l.all fineBd = false := by
    rw [List.all_eq_false]
    exact ⟨b, hb, by simp [h]⟩
  rw [this]; rfl
-- 
set_option maxHeartbeats 2000000 in
theorem fine7_abs (W : World) (l : List Bd) (hl : l.length ≤ 9223372036854775807) (hr : ∀ b ∈ l, b.t.rng) : AFun Try.prog W 18 [.lst (l.map Bd.cv)] (.val (.b (fine7B l))) := by
  have hsz := Bd.size_all l
  refine afun_of (rs := [.b (fine7B l)]) Try.func18 Try.ntmps18 rfl rfl rfl rfl ?_
  intro w U hW
  refine awp_seq (awp_region ?_)
  (refine ⟨_, _, _, a_assign (gd_none rfl) rfl rfl rfl rfl rfl, (by first | rfl | kernel_rfl), ?_⟩)
  show AWp _ _ _ _ _ _ _
  refine awp_seq (awp_seq (awp_region ?_))
  (refine ⟨_, _, _, a_assign (gd_none rfl) rfl rfl rfl rfl rfl, (by first | rfl | kernel_rfl), ?_⟩)
  show AWp _ _ _ _ _ _ _
  refine awp_block (awp_countI l.length (fun k => ∀ b ∈ l.take k, fineBd b = true) (fun k => [(0, .val (.lst (l.map Bd.cv))), (3, .val (.i k))]) (wk_sub ⟨rfl, rfl, trivial⟩) (by simp) ?_)
  intro k hk hI
  refine awp_seq (awp_seq (awp_region ?_))
  (refine ⟨_, _, _, a_move (gd_none rfl) rfl rfl rfl rfl rfl, (by first | rfl | kernel_rfl), ?_⟩)
  (refine ⟨_, _, _, a_move (gd_none rfl) rfl rfl rfl rfl rfl, (by first | rfl | kernel_rfl), ?_⟩)
  (first | (refine ⟨_, _, _, a_len (gd_none rfl) rfl rfl rfl rfl rfl rfl rfl, (by first | rfl | kernel_rfl), ?_⟩) | (refine ⟨_, _, _, a_lenM (gd_none rfl) rfl rfl rfl rfl rfl rfl rfl, (by first | rfl | kernel_rfl), ?_⟩))
  (refine ⟨_, _, _, a_lss (gd_none rfl) rfl rfl rfl rfl rfl rfl, (by first | rfl | kernel_rfl), ?_⟩)
  show AWp _ _ _ _ _ _ _
  refine awp_cond rfl (fun hc => awp_skip ?_) (fun hc => awp_exit ?_)
  · have hkl : k < l.length := by
      simp only [List.length_map, decide_eq_true_eq] at hc
      omega
    clear hc
    obtain ⟨b, hb⟩ : ∃ b, l[k]? = some b := ⟨l[k], List.getElem?_eq_getElem hkl⟩
    have hb' := Bd.map_at hb
    have hbm := List.mem_of_getElem? hb
    have htk : l.take (k + 1) = l.take k ++ [b] := by rw [List.take_add_one, hb]; rfl
    show AWp _ _ _ _ _ _ _
    by_cases h1 : b.v < 0
    · have g1 : decide (b.v < 0) = true := by simpa using h1
      refine awp_seq (awp_block (awp_seq (awp_region ?_)))
      (refine ⟨_, _, _, a_move (gd_none rfl) rfl rfl rfl rfl rfl, (by first | rfl | kernel_rfl), ?_⟩)
      (refine ⟨_, _, _, a_move (gd_none rfl) rfl rfl rfl rfl rfl, (by first | rfl | kernel_rfl), ?_⟩)
      (refine ⟨_, _, _, a_index (gd_none rfl) rfl rfl rfl rfl rfl rfl rfl rfl rfl (by assumption) rfl (by first | assumption | exact szAll_spec rfl | exact Tm.size_all _ | exact Bd.size_all _ | exact ints_size _), (by first | rfl | kernel_rfl), ?_⟩)
      (first | (refine ⟨_, _, _, a_field_bp (gd_none rfl) rfl rfl rfl rfl rfl rfl rfl rfl rfl, (by first | rfl | kernel_rfl), ?_⟩) | (refine ⟨_, _, _, a_field_ad (gd_none rfl) rfl rfl rfl rfl rfl rfl rfl rfl rfl rfl rfl, (by first | rfl | kernel_rfl), ?_⟩) | (refine ⟨_, _, _, a_fieldM (gd_none rfl) rfl rfl rfl rfl rfl rfl rfl rfl rfl, (by first | rfl | kernel_rfl), ?_⟩))
      (first | (refine ⟨_, _, _, a_load_all (gd_none rfl) rfl rfl rfl rfl rfl rfl rfl rfl rfl rfl rfl rfl, (by first | rfl | kernel_rfl), ?_⟩) | (refine ⟨_, _, _, a_load_tok (gd_none rfl) rfl rfl rfl rfl rfl rfl rfl rfl rfl rfl rfl rfl rfl, (by first | rfl | kernel_rfl), ?_⟩) | (refine ⟨_, _, _, a_load_bp (gd_none rfl) rfl rfl rfl rfl rfl rfl rfl rfl rfl rfl rfl rfl, (by first | rfl | kernel_rfl), ?_⟩) | (refine ⟨_, _, _, a_load_ad (gd_none rfl) rfl rfl rfl rfl rfl rfl rfl rfl rfl, (by first | rfl | kernel_rfl), ?_⟩) | (refine ⟨_, _, _, a_load_ptr (gd_none rfl) rfl rfl rfl rfl rfl rfl rfl rfl rfl, (by first | rfl | kernel_rfl), ?_⟩) | (refine ⟨_, _, _, a_load_fld (gd_none rfl) rfl rfl rfl rfl rfl rfl rfl rfl rfl rfl rfl rfl rfl, (by first | rfl | kernel_rfl), ?_⟩) | (refine ⟨_, _, _, a_load_fullv (gd_none rfl) rfl rfl rfl rfl rfl rfl rfl rfl rfl, (by first | rfl | kernel_rfl), ?_⟩))
      (refine ⟨_, _, _, a_lss (gd_none rfl) rfl rfl rfl rfl rfl rfl, (by first | rfl | kernel_rfl), ?_⟩)
      (refine ⟨_, _, _, a_move (gd_none rfl) rfl rfl rfl rfl rfl, (by first | rfl | kernel_rfl), ?_⟩)
      (refine ⟨_, _, _, a_off (go_off rfl rfl rfl rfl (by first | rfl | assumption | (simp; done) | (simp [*]; done))) rfl rfl rfl, rfl, ?_⟩)
      (refine ⟨_, _, _, a_off (go_off rfl rfl rfl rfl (by first | rfl | assumption | (simp; done) | (simp [*]; done))) rfl rfl rfl, rfl, ?_⟩)
      (refine ⟨_, _, _, a_off (go_off rfl rfl rfl rfl (by first | rfl | assumption | (simp; done) | (simp [*]; done))) rfl rfl rfl, rfl, ?_⟩)
      (refine ⟨_, _, _, a_off (go_off rfl rfl rfl rfl (by first | rfl | assumption | (simp; done) | (simp [*]; done))) rfl rfl rfl, rfl, ?_⟩)
      (refine ⟨_, _, _, a_off (go_off rfl rfl rfl rfl (by first | rfl | assumption | (simp; done) | (simp [*]; done))) rfl rfl rfl, rfl, ?_⟩)
      (refine ⟨_, _, _, a_off (go_off rfl rfl rfl rfl (by first | rfl | assumption | (simp; done) | (simp [*]; done))) rfl rfl rfl, rfl, ?_⟩)
      (first | (refine ⟨_, _, _, a_pick_t (gd_none rfl) rfl rfl rfl rfl rfl ?hb rfl, rfl, ?_⟩; case hb => (first | rfl | assumption | (simp; done))) | (refine ⟨_, _, _, a_pick_f (gd_none rfl) rfl rfl rfl rfl rfl ?hb rfl, rfl, ?_⟩; case hb => (first | rfl | assumption | (simp; done))))
      (refine ⟨_, _, _, a_move (gd_none rfl) rfl rfl rfl rfl rfl, (by first | rfl | kernel_rfl), ?_⟩)
      (refine ⟨_, _, _, a_off (go_off rfl rfl rfl rfl (by first | rfl | assumption | (simp; done) | (simp [*]; done))) rfl rfl rfl, rfl, ?_⟩)
      (refine ⟨_, _, _, a_off (go_off rfl rfl rfl rfl (by first | rfl | assumption | (simp; done) | (simp [*]; done))) rfl rfl rfl, rfl, ?_⟩)
      (refine ⟨_, _, _, a_off (go_off rfl rfl rfl rfl (by first | rfl | assumption | (simp; done) | (simp [*]; done))) rfl rfl rfl, rfl, ?_⟩)
      (refine ⟨_, _, _, a_off (go_off rfl rfl rfl rfl (by first | rfl | assumption | (simp; done) | (simp [*]; done))) rfl rfl rfl, rfl, ?_⟩)
      (refine ⟨_, _, _, a_off (go_off rfl rfl rfl rfl (by first | rfl | assumption | (simp; done) | (simp [*]; done))) rfl rfl rfl, rfl, ?_⟩)
      (refine ⟨_, _, _, a_off (go_off rfl rfl rfl rfl (by first | rfl | assumption | (simp; done) | (simp [*]; done))) rfl rfl rfl, rfl, ?_⟩)
      (refine ⟨_, _, _, a_off (go_off rfl rfl rfl rfl (by first | rfl | assumption | (simp; done) | (simp [*]; done))) rfl rfl rfl, rfl, ?_⟩)
      (first | (refine ⟨_, _, _, a_pick_t (gd_none rfl) rfl rfl rfl rfl rfl ?hb rfl, rfl, ?_⟩; case hb => (first | rfl | assumption | (simp; done))) | (refine ⟨_, _, _, a_pick_f (gd_none rfl) rfl rfl rfl rfl rfl ?hb rfl, rfl, ?_⟩; case hb => (first | rfl | assumption | (simp; done))))
      show AWp _ _ _ _ _ _ _
      refine awp_cond rfl (fun hc => ?_) (fun hc => by cases hc)
      rw [fine7_no hbm (by unfold fineBd; simp; omega)]
      refine awp_seq (awp_region ?_)
      (refine ⟨_, _, _, a_assign (gd_none rfl) rfl rfl rfl rfl rfl, (by first | rfl | kernel_rfl), ?_⟩)
      show AWp _ _ _ _ _ _ _
      exact awp_ret (And.intro (.inr rfl) rfl)
    have g1 : decide (b.v < 0) = false := by simpa using h1
    by_cases h2 : b.v > 1000
    · have g2 : decide (b.v > 1000) = true := by simpa using h2
      refine awp_seq (awp_block (awp_seq (awp_region ?_)))
      (refine ⟨_, _, _, a_move (gd_none rfl) rfl rfl rfl rfl rfl, (by first | rfl | kernel_rfl), ?_⟩)
      (refine ⟨_, _, _, a_move (gd_none rfl) rfl rfl rfl rfl rfl, (by first | rfl | kernel_rfl), ?_⟩)
      (refine ⟨_, _, _, a_index (gd_none rfl) rfl rfl rfl rfl rfl rfl rfl rfl rfl (by assumption) rfl (by first | assumption | exact szAll_spec rfl | exact Tm.size_all _ | exact Bd.size_all _ | exact ints_size _), (by first | rfl | kernel_rfl), ?_⟩)
      (first | (refine ⟨_, _, _, a_field_bp (gd_none rfl) rfl rfl rfl rfl rfl rfl rfl rfl rfl, (by first | rfl | kernel_rfl), ?_⟩) | (refine ⟨_, _, _, a_field_ad (gd_none rfl) rfl rfl rfl rfl rfl rfl rfl rfl rfl rfl rfl, (by first | rfl | kernel_rfl), ?_⟩) | (refine ⟨_, _, _, a_fieldM (gd_none rfl) rfl rfl rfl rfl rfl rfl rfl rfl rfl, (by first | rfl | kernel_rfl), ?_⟩))
      (first | (refine ⟨_, _, _, a_load_all (gd_none rfl) rfl rfl rfl rfl rfl rfl rfl rfl rfl rfl rfl rfl, (by first | rfl | kernel_rfl), ?_⟩) | (refine ⟨_, _, _, a_load_tok (gd_none rfl) rfl rfl rfl rfl rfl rfl rfl rfl rfl rfl rfl rfl rfl, (by first | rfl | kernel_rfl), ?_⟩) | (refine ⟨_, _, _, a_load_bp (gd_none rfl) rfl rfl rfl rfl rfl rfl rfl rfl rfl rfl rfl rfl, (by first | rfl | kernel_rfl), ?_⟩) | (refine ⟨_, _, _, a_load_ad (gd_none rfl) rfl rfl rfl rfl rfl rfl rfl rfl rfl, (by first | rfl | kernel_rfl), ?_⟩) | (refine ⟨_, _, _, a_load_ptr (gd_none rfl) rfl rfl rfl rfl rfl rfl rfl rfl rfl, (by first | rfl | kernel_rfl), ?_⟩) | (refine ⟨_, _, _, a_load_fld (gd_none rfl) rfl rfl rfl rfl rfl rfl rfl rfl rfl rfl rfl rfl rfl, (by first | rfl | kernel_rfl), ?_⟩) | (refine ⟨_, _, _, a_load_fullv (gd_none rfl) rfl rfl rfl rfl rfl rfl rfl rfl rfl, (by first | rfl | kernel_rfl), ?_⟩))
      (refine ⟨_, _, _, a_lss (gd_none rfl) rfl rfl rfl rfl rfl rfl, (by first | rfl | kernel_rfl), ?_⟩)
      (refine ⟨_, _, _, a_move (gd_none rfl) rfl rfl rfl rfl rfl, (by first | rfl | kernel_rfl), ?_⟩)
      (refine ⟨_, _, _, a_move (gd_on rfl rfl rfl rfl (by first | rfl | assumption | (simp; done))) rfl rfl rfl rfl rfl, (by first | rfl | kernel_rfl), ?_⟩)
      (refine ⟨_, _, _, a_move (gd_on rfl rfl rfl rfl (by first | rfl | assumption | (simp; done))) rfl rfl rfl rfl rfl, (by first | rfl | kernel_rfl), ?_⟩)
      (refine ⟨_, _, _, a_index (gd_on rfl rfl rfl rfl (by first | rfl | assumption | (simp; done))) rfl rfl rfl rfl rfl rfl rfl rfl rfl (by assumption) rfl (by first | assumption | exact szAll_spec rfl | exact Tm.size_all _ | exact Bd.size_all _ | exact ints_size _), (by first | rfl | kernel_rfl), ?_⟩)
      (first | (refine ⟨_, _, _, a_field_bp (gd_on rfl rfl rfl rfl (by first | rfl | assumption | (simp; done))) rfl rfl rfl rfl rfl rfl rfl rfl rfl, (by first | rfl | kernel_rfl), ?_⟩) | (refine ⟨_, _, _, a_field_ad (gd_on rfl rfl rfl rfl (by first | rfl | assumption | (simp; done))) rfl rfl rfl rfl rfl rfl rfl rfl rfl rfl rfl, (by first | rfl | kernel_rfl), ?_⟩) | (refine ⟨_, _, _, a_fieldM (gd_on rfl rfl rfl rfl (by first | rfl | assumption | (simp; done))) rfl rfl rfl rfl rfl rfl rfl rfl rfl, (by first | rfl | kernel_rfl), ?_⟩))
      (first | (refine ⟨_, _, _, a_load_all (gd_on rfl rfl rfl rfl (by first | rfl | assumption | (simp; done))) rfl rfl rfl rfl rfl rfl rfl rfl rfl rfl rfl rfl, (by first | rfl | kernel_rfl), ?_⟩) | (refine ⟨_, _, _, a_load_tok (gd_on rfl rfl rfl rfl (by first | rfl | assumption | (simp; done))) rfl rfl rfl rfl rfl rfl rfl rfl rfl rfl rfl rfl rfl, (by first | rfl | kernel_rfl), ?_⟩) | (refine ⟨_, _, _, a_load_bp (gd_on rfl rfl rfl rfl (by first | rfl | assumption | (simp; done))) rfl rfl rfl rfl rfl rfl rfl rfl rfl rfl rfl rfl, (by first | rfl | kernel_rfl), ?_⟩) | (refine ⟨_, _, _, a_load_ad (gd_on rfl rfl rfl rfl (by first | rfl | assumption | (simp; done))) rfl rfl rfl rfl rfl rfl rfl rfl rfl, (by first | rfl | kernel_rfl), ?_⟩) | (refine ⟨_, _, _, a_load_ptr (gd_on rfl rfl rfl rfl (by first | rfl | assumption | (simp; done))) rfl rfl rfl rfl rfl rfl rfl rfl rfl, (by first | rfl | kernel_rfl), ?_⟩) | (refine ⟨_, _, _, a_load_fld (gd_on rfl rfl rfl rfl (by first | rfl | assumption | (simp; done))) rfl rfl rfl rfl rfl rfl rfl rfl rfl rfl rfl rfl rfl, (by first | rfl | kernel_rfl), ?_⟩) | (refine ⟨_, _, _, a_load_fullv (gd_on rfl rfl rfl rfl (by first | rfl | assumption | (simp; done))) rfl rfl rfl rfl rfl rfl rfl rfl rfl, (by first | rfl | kernel_rfl), ?_⟩))
      (refine ⟨_, _, _, a_gtr (gd_on rfl rfl rfl rfl (by first | rfl | assumption | (simp; done))) rfl rfl rfl rfl rfl rfl, (by first | rfl | kernel_rfl), ?_⟩)
      (first | (refine ⟨_, _, _, a_pick_t (gd_none rfl) rfl rfl rfl rfl rfl ?hb rfl, rfl, ?_⟩; case hb => (first | rfl | assumption | (simp; done))) | (refine ⟨_, _, _, a_pick_f (gd_none rfl) rfl rfl rfl rfl rfl ?hb rfl, rfl, ?_⟩; case hb => (first | rfl | assumption | (simp; done))))
      (refine ⟨_, _, _, a_move (gd_none rfl) rfl rfl rfl rfl rfl, (by first | rfl | kernel_rfl), ?_⟩)
      (refine ⟨_, _, _, a_off (go_off rfl rfl rfl rfl (by first | rfl | assumption | (simp; done) | (simp [*]; done))) rfl rfl rfl, rfl, ?_⟩)
      (refine ⟨_, _, _, a_off (go_off rfl rfl rfl rfl (by first | rfl | assumption | (simp; done) | (simp [*]; done))) rfl rfl rfl, rfl, ?_⟩)
      (refine ⟨_, _, _, a_off (go_off rfl rfl rfl rfl (by first | rfl | assumption | (simp; done) | (simp [*]; done))) rfl rfl rfl, rfl, ?_⟩)
      (refine ⟨_, _, _, a_off (go_off rfl rfl rfl rfl (by first | rfl | assumption | (simp; done) | (simp [*]; done))) rfl rfl rfl, rfl, ?_⟩)
      (refine ⟨_, _, _, a_off (go_off rfl rfl rfl rfl (by first | rfl | assumption | (simp; done) | (simp [*]; done))) rfl rfl rfl, rfl, ?_⟩)
      (refine ⟨_, _, _, a_off (go_off rfl rfl rfl rfl (by first | rfl | assumption | (simp; done) | (simp [*]; done))) rfl rfl rfl, rfl, ?_⟩)
      (refine ⟨_, _, _, a_off (go_off rfl rfl rfl rfl (by first | rfl | assumption | (simp; done) | (simp [*]; done))) rfl rfl rfl, rfl, ?_⟩)
      (first | (refine ⟨_, _, _, a_pick_t (gd_none rfl) rfl rfl rfl rfl rfl ?hb rfl, rfl, ?_⟩; case hb => (first | rfl | assumption | (simp; done))) | (refine ⟨_, _, _, a_pick_f (gd_none rfl) rfl rfl rfl rfl rfl ?hb rfl, rfl, ?_⟩; case hb => (first | rfl | assumption | (simp; done))))
      show AWp _ _ _ _ _ _ _
      refine awp_cond rfl (fun hc => ?_) (fun hc => by cases hc)
      rw [fine7_no hbm (by unfold fineBd; simp; omega)]
      refine awp_seq (awp_region ?_)
      (refine ⟨_, _, _, a_assign (gd_none rfl) rfl rfl rfl rfl rfl, (by first | rfl | kernel_rfl), ?_⟩)
      show AWp _ _ _ _ _ _ _
      exact awp_ret (And.intro (.inr rfl) rfl)
    have g2 : decide (b.v > 1000) = false := by simpa using h2
    refine awp_seq (awp_block (awp_seq (awp_region ?_)))
    (refine ⟨_, _, _, a_move (gd_none rfl) rfl rfl rfl rfl rfl, (by first | rfl | kernel_rfl), ?_⟩)
    (refine ⟨_, _, _, a_move (gd_none rfl) rfl rfl rfl rfl rfl, (by first | rfl | kernel_rfl), ?_⟩)
    (refine ⟨_, _, _, a_index (gd_none rfl) rfl rfl rfl rfl rfl rfl rfl rfl rfl (by assumption) rfl (by first | assumption | exact szAll_spec rfl | exact Tm.size_all _ | exact Bd.size_all _ | exact ints_size _), (by first | rfl | kernel_rfl), ?_⟩)
    (first | (refine ⟨_, _, _, a_field_bp (gd_none rfl) rfl rfl rfl rfl rfl rfl rfl rfl rfl, (by first | rfl | kernel_rfl), ?_⟩) | (refine ⟨_, _, _, a_field_ad (gd_none rfl) rfl rfl rfl rfl rfl rfl rfl rfl rfl rfl rfl, (by first | rfl | kernel_rfl), ?_⟩) | (refine ⟨_, _, _, a_fieldM (gd_none rfl) rfl rfl rfl rfl rfl rfl rfl rfl rfl, (by first | rfl | kernel_rfl), ?_⟩))
    (first | (refine ⟨_, _, _, a_load_all (gd_none rfl) rfl rfl rfl rfl rfl rfl rfl rfl rfl rfl rfl rfl, (by first | rfl | kernel_rfl), ?_⟩) | (refine ⟨_, _, _, a_load_tok (gd_none rfl) rfl rfl rfl rfl rfl rfl rfl rfl rfl rfl rfl rfl rfl, (by first | rfl | kernel_rfl), ?_⟩) | (refine ⟨_, _, _, a_load_bp (gd_none rfl) rfl rfl rfl rfl rfl rfl rfl rfl rfl rfl rfl rfl, (by first | rfl | kernel_rfl), ?_⟩) | (refine ⟨_, _, _, a_load_ad (gd_none rfl) rfl rfl rfl rfl rfl rfl rfl rfl rfl, (by first | rfl | kernel_rfl), ?_⟩) | (refine ⟨_, _, _, a_load_ptr (gd_none rfl) rfl rfl rfl rfl rfl rfl rfl rfl rfl, (by first | rfl | kernel_rfl), ?_⟩) | (refine ⟨_, _, _, a_load_fld (gd_none rfl) rfl rfl rfl rfl rfl rfl rfl rfl rfl rfl rfl rfl rfl, (by first | rfl | kernel_rfl), ?_⟩) | (refine ⟨_, _, _, a_load_fullv (gd_none rfl) rfl rfl rfl rfl rfl rfl rfl rfl rfl, (by first | rfl | kernel_rfl), ?_⟩))
    (refine ⟨_, _, _, a_lss (gd_none rfl) rfl rfl rfl rfl rfl rfl, (by first | rfl | kernel_rfl), ?_⟩)
    (refine ⟨_, _, _, a_move (gd_none rfl) rfl rfl rfl rfl rfl, (by first | rfl | kernel_rfl), ?_⟩)
    (refine ⟨_, _, _, a_move (gd_on rfl rfl rfl rfl (by first | rfl | assumption | (simp; done))) rfl rfl rfl rfl rfl, (by first | rfl | kernel_rfl), ?_⟩)
    (refine ⟨_, _, _, a_move (gd_on rfl rfl rfl rfl (by first | rfl | assumption | (simp; done))) rfl rfl rfl rfl rfl, (by first | rfl | kernel_rfl), ?_⟩)
    (refine ⟨_, _, _, a_index (gd_on rfl rfl rfl rfl (by first | rfl | assumption | (simp; done))) rfl rfl rfl rfl rfl rfl rfl rfl rfl (by assumption) rfl (by first | assumption | exact szAll_spec rfl | exact Tm.size_all _ | exact Bd.size_all _ | exact ints_size _), (by first | rfl | kernel_rfl), ?_⟩)
    (first | (refine ⟨_, _, _, a_field_bp (gd_on rfl rfl rfl rfl (by first | rfl | assumption | (simp; done))) rfl rfl rfl rfl rfl rfl rfl rfl rfl, (by first | rfl | kernel_rfl), ?_⟩) | (refine ⟨_, _, _, a_field_ad (gd_on rfl rfl rfl rfl (by first | rfl | assumption | (simp; done))) rfl rfl rfl rfl rfl rfl rfl rfl rfl rfl rfl, (by first | rfl | kernel_rfl), ?_⟩) | (refine ⟨_, _, _, a_fieldM (gd_on rfl rfl rfl rfl (by first | rfl | assumption | (simp; done))) rfl rfl rfl rfl rfl rfl rfl rfl rfl, (by first | rfl | kernel_rfl), ?_⟩))
    (first | (refine ⟨_, _, _, a_load_all (gd_on rfl rfl rfl rfl (by first | rfl | assumption | (simp; done))) rfl rfl rfl rfl rfl rfl rfl rfl rfl rfl rfl rfl, (by first | rfl | kernel_rfl), ?_⟩) | (refine ⟨_, _, _, a_load_tok (gd_on rfl rfl rfl rfl (by first | rfl | assumption | (simp; done))) rfl rfl rfl rfl rfl rfl rfl rfl rfl rfl rfl rfl rfl, (by first | rfl | kernel_rfl), ?_⟩) | (refine ⟨_, _, _, a_load_bp (gd_on rfl rfl rfl rfl (by first | rfl | assumption | (simp; done))) rfl rfl rfl rfl rfl rfl rfl rfl rfl rfl rfl rfl, (by first | rfl | kernel_rfl), ?_⟩) | (refine ⟨_, _, _, a_load_ad (gd_on rfl rfl rfl rfl (by first | rfl | assumption | (simp; done))) rfl rfl rfl rfl rfl rfl rfl rfl rfl, (by first | rfl | kernel_rfl), ?_⟩) | (refine ⟨_, _, _, a_load_ptr (gd_on rfl rfl rfl rfl (by first | rfl | assumption | (simp; done))) rfl rfl rfl rfl rfl rfl rfl rfl rfl, (by first | rfl | kernel_rfl), ?_⟩) | (refine ⟨_, _, _, a_load_fld (gd_on rfl rfl rfl rfl (by first | rfl | assumption | (simp; done))) rfl rfl rfl rfl rfl rfl rfl rfl rfl rfl rfl rfl rfl, (by first | rfl | kernel_rfl), ?_⟩) | (refine ⟨_, _, _, a_load_fullv (gd_on rfl rfl rfl rfl (by first | rfl | assumption | (simp; done))) rfl rfl rfl rfl rfl rfl rfl rfl rfl, (by first | rfl | kernel_rfl), ?_⟩))
    (refine ⟨_, _, _, a_gtr (gd_on rfl rfl rfl rfl (by first | rfl | assumption | (simp; done))) rfl rfl rfl rfl rfl rfl, (by first | rfl | kernel_rfl), ?_⟩)
    (first | (refine ⟨_, _, _, a_pick_t (gd_none rfl) rfl rfl rfl rfl rfl ?hb rfl, rfl, ?_⟩; case hb => (first | rfl | assumption | (simp; done))) | (refine ⟨_, _, _, a_pick_f (gd_none rfl) rfl rfl rfl rfl rfl ?hb rfl, rfl, ?_⟩; case hb => (first | rfl | assumption | (simp; done))))
    (refine ⟨_, _, _, a_move (gd_none rfl) rfl rfl rfl rfl rfl, (by first | rfl | kernel_rfl), ?_⟩)
    (refine ⟨_, _, _, a_move (gd_on rfl rfl rfl rfl (by first | rfl | assumption | (simp; done))) rfl rfl rfl rfl rfl, (by first | rfl | kernel_rfl), ?_⟩)
    (refine ⟨_, _, _, a_move (gd_on rfl rfl rfl rfl (by first | rfl | assumption | (simp; done))) rfl rfl rfl rfl rfl, (by first | rfl | kernel_rfl), ?_⟩)
    (refine ⟨_, _, _, a_index (gd_on rfl rfl rfl rfl (by first | rfl | assumption | (simp; done))) rfl rfl rfl rfl rfl rfl rfl rfl rfl (by assumption) rfl (by first | assumption | exact szAll_spec rfl | exact Tm.size_all _ | exact Bd.size_all _ | exact ints_size _), (by first | rfl | kernel_rfl), ?_⟩)
    (first | (refine ⟨_, _, _, a_field_bp (gd_on rfl rfl rfl rfl (by first | rfl | assumption | (simp; done))) rfl rfl rfl rfl rfl rfl rfl rfl rfl, (by first | rfl | kernel_rfl), ?_⟩) | (refine ⟨_, _, _, a_field_ad (gd_on rfl rfl rfl rfl (by first | rfl | assumption | (simp; done))) rfl rfl rfl rfl rfl rfl rfl rfl rfl rfl rfl, (by first | rfl | kernel_rfl), ?_⟩) | (refine ⟨_, _, _, a_fieldM (gd_on rfl rfl rfl rfl (by first | rfl | assumption | (simp; done))) rfl rfl rfl rfl rfl rfl rfl rfl rfl, (by first | rfl | kernel_rfl), ?_⟩))
    (first | (refine ⟨_, _, _, a_load_all (gd_on rfl rfl rfl rfl (by first | rfl | assumption | (simp; done))) rfl rfl rfl rfl rfl rfl rfl rfl rfl rfl rfl rfl, (by first | rfl | kernel_rfl), ?_⟩) | (refine ⟨_, _, _, a_load_tok (gd_on rfl rfl rfl rfl (by first | rfl | assumption | (simp; done))) rfl rfl rfl rfl rfl rfl rfl rfl rfl rfl rfl rfl rfl, (by first | rfl | kernel_rfl), ?_⟩) | (refine ⟨_, _, _, a_load_bp (gd_on rfl rfl rfl rfl (by first | rfl | assumption | (simp; done))) rfl rfl rfl rfl rfl rfl rfl rfl rfl rfl rfl rfl, (by first | rfl | kernel_rfl), ?_⟩) | (refine ⟨_, _, _, a_load_ad (gd_on rfl rfl rfl rfl (by first | rfl | assumption | (simp; done))) rfl rfl rfl rfl rfl rfl rfl rfl rfl, (by first | rfl | kernel_rfl), ?_⟩) | (refine ⟨_, _, _, a_load_ptr (gd_on rfl rfl rfl rfl (by first | rfl | assumption | (simp; done))) rfl rfl rfl rfl rfl rfl rfl rfl rfl, (by first | rfl | kernel_rfl), ?_⟩) | (refine ⟨_, _, _, a_load_fld (gd_on rfl rfl rfl rfl (by first | rfl | assumption | (simp; done))) rfl rfl rfl rfl rfl rfl rfl rfl rfl rfl rfl rfl rfl, (by first | rfl | kernel_rfl), ?_⟩) | (refine ⟨_, _, _, a_load_fullv (gd_on rfl rfl rfl rfl (by first | rfl | assumption | (simp; done))) rfl rfl rfl rfl rfl rfl rfl rfl rfl, (by first | rfl | kernel_rfl), ?_⟩))
    (refine ⟨_, _, _, a_call (gd_on rfl rfl rfl rfl (by first | rfl | assumption | (simp; done))) rfl rfl rfl rfl rfl (small_abs w b.t 20 10 (hr b hbm) (by decide) (by decide) (by decide) (by decide)), (by first | rfl | kernel_rfl), ?_⟩)
    (refine ⟨_, _, _, a_lss (gd_on rfl rfl rfl rfl (by first | rfl | assumption | (simp; done))) rfl rfl rfl rfl rfl rfl, (by first | rfl | kernel_rfl), ?_⟩)
    (first | (refine ⟨_, _, _, a_pick_t (gd_none rfl) rfl rfl rfl rfl rfl ?hb rfl, rfl, ?_⟩; case hb => (first | rfl | assumption | (simp; done))) | (refine ⟨_, _, _, a_pick_f (gd_none rfl) rfl rfl rfl rfl rfl ?hb rfl, rfl, ?_⟩; case hb => (first | rfl | assumption | (simp; done))))
    show AWp _ _ _ _ _ _ _
    refine awp_cond rfl (fun hc => ?_) (fun hc => awp_skip ?_)
    · have h3 : smallT b.t 20 10 < 0 := by simpa using hc
      rw [fine7_no hbm (by unfold fineBd; simp; omega)]
      refine awp_seq (awp_region ?_)
      (refine ⟨_, _, _, a_assign (gd_none rfl) rfl rfl rfl rfl rfl, (by first | rfl | kernel_rfl), ?_⟩)
      show AWp _ _ _ _ _ _ _
      exact awp_ret (And.intro (.inr rfl) rfl)
    have h3 : ¬ smallT b.t 20 10 < 0 := by simpa using hc
    show AWp _ _ _ _ _ _ _
    refine awp_region ?_
    (refine ⟨_, _, _, a_move (gd_none rfl) rfl rfl rfl rfl rfl, (by first | rfl | kernel_rfl), ?_⟩)
    (refine ⟨_, _, _, a_add (gd_none rfl) rfl rfl rfl rfl rfl rfl (by first | omega | (simp only [List.length_map, List.length_append, List.length_cons, List.length_nil] <;> omega) | (simp <;> omega)), (by first | rfl | kernel_rfl), ?_⟩)
    (refine ⟨_, _, _, a_assign (gd_none rfl) rfl rfl rfl rfl rfl, (by first | rfl | kernel_rfl), ?_⟩)
    refine ⟨hkl, fun x hx => ?_, wk_sub ⟨rfl, rfl, trivial⟩⟩
    rw [htk] at hx
    rcases List.mem_append.1 hx with hx | hx
    · exact hI x hx
    · rw [List.mem_singleton.1 hx]
      unfold fineBd
      simp
      omega
  · have hkl : k = l.length := by
      simp only [List.length_map, decide_eq_false_iff_not] at hc
      omega
    subst hkl
    rw [List.take_length] at hI
    have e : fine7B l = decide (l.length ≤ 8) := by
      unfold fine7B
      rw [List.all_eq_true.2 hI]; rfl
    rw [e]
    show AWp _ _ _ _ _ _ _
    refine awp_seq (awp_region ?_)
    (refine ⟨_, _, _, a_move (gd_none rfl) rfl rfl rfl rfl rfl, (by first | rfl | kernel_rfl), ?_⟩)
    (first | (refine ⟨_, _, _, a_len (gd_none rfl) rfl rfl rfl rfl rfl rfl rfl, (by first | rfl | kernel_rfl), ?_⟩) | (refine ⟨_, _, _, a_lenM (gd_none rfl) rfl rfl rfl rfl rfl rfl rfl, (by first | rfl | kernel_rfl), ?_⟩))
    (refine ⟨_, _, _, a_leq (gd_none rfl) rfl rfl rfl rfl rfl rfl, (by first | rfl | kernel_rfl), ?_⟩)
    (refine ⟨_, _, _, a_assign (gd_none rfl) rfl rfl rfl rfl rfl, (by first | rfl | kernel_rfl), ?_⟩)
    show AWp _ _ _ _ _ _ _
    refine awp_ret (And.intro (.inr rfl) ?_)
    have e2 : decide (((l.map Bd.cv).length : Int) ≤ 8) = decide (l.length ≤ 8) := by
      rw [List.length_map, decide_eq_decide]; omega
    exact congrArg (fun x => some [CV.b x]) e2

/-- What the document's Apply makes. -/
def appR (l : List Bd) : Tm → Tm
  | ⟨f, ts⟩ => if f < 0 then imgB l (-1 - f) else ⟨f, ts.map (appR l)⟩
theorem appR_var {l : List Bd} {t : Tm} (h : t.f < 0) : appR l t = imgB l (-1 - t.f) := by cases t; rw [appR, if_pos h]
theorem appR_sym {l : List Bd} {t : Tm} (h : ¬ t.f < 0) : appR l t = ⟨t.f, t.l.map (appR l)⟩ := by cases t; rw [appR, if_neg h]
theorem appR_strip (l : List Bd) (t : Tm) : (appR l t).strip = (repT (imgB l) t).strip := by
  induction t using Tm.indp with
  | h t ih =>
    by_cases h : t.f < 0
    · rw [appR_var h, repT_var h, Tm.strip_strip]
    · rw [appR_sym h, repT_sym h, Tm.strip_eq, Tm.strip_eq, Tm.ps_of_sym (t := ⟨t.f, _⟩) (by show 0 ≤ t.f; omega), Tm.ps_of_sym (t := ⟨t.f, _⟩) (by show 0 ≤ t.f; omega)]
      rw [Tm.ps_of_sym (by omega)] at ih
      simp only [List.map_map]
      congr 1
      exact List.map_congr_left fun s hs => ih s hs
theorem appR_ok {l : List Bd} {t : Tm} (h : t.ok) (hi : ∀ b ∈ l, b.t.ok) : (appR l t).ok := by
  induction t using Tm.ind with
  | h f ts ih =>
    obtain ⟨h1, h2⟩ := (Tm.ok_iff _).1 h
    simp only at h1 h2
    by_cases hf : f < 0
    · rw [appR_var hf]; exact imgB_ok2 hi _
    · rw [appR_sym hf]
      refine (Tm.ok_iff _).2 ⟨by simpa using h1, fun s hs => ?_⟩
      obtain ⟨u, hu, rfl⟩ := List.mem_map.1 hs
      exact ih u hu (h2 u hu)
-- 
set_option maxHeartbeats 2000000 in
theorem refApply_abs (W : World) (l : List Bd) (hl : l.length ≤ 1000000) : ∀ (t : Tm), t.rng → t.ok → AFun Try.prog W 63 [.lst (l.map Bd.cv), t.cw] (.val (appR l t).cw) := by
  have hsz := Bd.size_all l
  intro t
  induction t using Tm.ind with
  | h f ts ih =>
  intro hr hok
  obtain ⟨hlt, hok⟩ := (Tm.ok_iff _).1 hok
  have hr := (Tm.rng_iff _).1 hr
  simp only at hlt hok hr
  have hszt := Tm.size_all ts
  refine afun_of (rs := [(appR l ⟨f, ts⟩).cw]) Try.func63 Try.ntmps63 rfl rfl rfl rfl ?_
  intro w U hW
  refine awp_seq (awp_region ?_)
  (refine ⟨_, _, _, a_box (gd_none rfl) rfl rfl rfl rfl rfl, (by first | rfl | kernel_rfl), ?_⟩)
  (refine ⟨_, _, _, a_alloc (gd_none rfl) rfl rfl rfl rfl rfl rfl rfl rfl rfl rfl, (by first | rfl | kernel_rfl), ?_⟩)
  show AWp _ _ _ _ _ _ _
  refine awp_seq (awp_seq (awp_region ?_))
  (first | (refine ⟨_, _, _, a_field_bp (gd_none rfl) rfl rfl rfl rfl rfl rfl rfl rfl rfl, (by first | rfl | kernel_rfl), ?_⟩) | (refine ⟨_, _, _, a_field_ad (gd_none rfl) rfl rfl rfl rfl rfl rfl rfl rfl rfl rfl rfl, (by first | rfl | kernel_rfl), ?_⟩) | (refine ⟨_, _, _, a_fieldM (gd_none rfl) rfl rfl rfl rfl rfl rfl rfl rfl rfl, (by first | rfl | kernel_rfl), ?_⟩))
  (first | (refine ⟨_, _, _, a_load_all (gd_none rfl) rfl rfl rfl rfl rfl rfl rfl rfl rfl rfl rfl rfl, (by first | rfl | kernel_rfl), ?_⟩) | (refine ⟨_, _, _, a_load_tok (gd_none rfl) rfl rfl rfl rfl rfl rfl rfl rfl rfl rfl rfl rfl rfl, (by first | rfl | kernel_rfl), ?_⟩) | (refine ⟨_, _, _, a_load_bp (gd_none rfl) rfl rfl rfl rfl rfl rfl rfl rfl rfl rfl rfl rfl, (by first | rfl | kernel_rfl), ?_⟩) | (refine ⟨_, _, _, a_load_ad (gd_none rfl) rfl rfl rfl rfl rfl rfl rfl rfl rfl, (by first | rfl | kernel_rfl), ?_⟩) | (refine ⟨_, _, _, a_load_ptr (gd_none rfl) rfl rfl rfl rfl rfl rfl rfl rfl rfl, (by first | rfl | kernel_rfl), ?_⟩) | (refine ⟨_, _, _, a_load_fld (gd_none rfl) rfl rfl rfl rfl rfl rfl rfl rfl rfl rfl rfl rfl rfl, (by first | rfl | kernel_rfl), ?_⟩) | (refine ⟨_, _, _, a_load_fullv (gd_none rfl) rfl rfl rfl rfl rfl rfl rfl rfl rfl, (by first | rfl | kernel_rfl), ?_⟩))
  (refine ⟨_, _, _, a_lss (gd_none rfl) rfl rfl rfl rfl rfl rfl, (by first | rfl | kernel_rfl), ?_⟩)
  show AWp _ _ _ _ _ _ _
  refine awp_cond rfl (fun hc => ?_) (fun hc => awp_skip ?_)
  · have hf : f < 0 := by simpa using hc
    rw [appR_var hf]
    refine awp_seq (awp_seq (awp_region ?_))
    (refine ⟨_, _, _, a_assign (gd_none rfl) rfl rfl rfl rfl rfl, (by first | rfl | kernel_rfl), ?_⟩)
    show AWp _ _ _ _ _ _ _
    refine awp_block (awp_countI l.length (fun k => ∀ i c, i < k → l[i]? = some c → c.v ≠ -1 - f) (fun k => [(0, .val (.lst (l.map Bd.cv))), (3, .bp 3 0 []), (100003, .bx (Tm.cw ⟨f, ts⟩)), (4, .bp 4 0 []), (100004, ⟨5, .row [.i 0, .lst []], 1, 0, [1]⟩), (5, .val (.i k))]) (wk_sub ⟨rfl, rfl, rfl, rfl, rfl, rfl, trivial⟩) (by omega) ?_)
    intro k hk hI
    refine awp_seq (awp_seq (awp_region ?_))
    (refine ⟨_, _, _, a_move (gd_none rfl) rfl rfl rfl rfl rfl, (by first | rfl | kernel_rfl), ?_⟩)
    (refine ⟨_, _, _, a_move (gd_none rfl) rfl rfl rfl rfl rfl, (by first | rfl | kernel_rfl), ?_⟩)
    (first | (refine ⟨_, _, _, a_len (gd_none rfl) rfl rfl rfl rfl rfl rfl rfl, (by first | rfl | kernel_rfl), ?_⟩) | (refine ⟨_, _, _, a_lenM (gd_none rfl) rfl rfl rfl rfl rfl rfl rfl, (by first | rfl | kernel_rfl), ?_⟩))
    (refine ⟨_, _, _, a_lss (gd_none rfl) rfl rfl rfl rfl rfl rfl, (by first | rfl | kernel_rfl), ?_⟩)
    show AWp _ _ _ _ _ _ _
    refine awp_cond rfl (fun hc => awp_skip ?_) (fun hc => awp_exit ?_)
    · have hkl : k < l.length := by
        simp only [List.length_map, decide_eq_true_eq] at hc
        omega
      clear hc
      obtain ⟨b, hb⟩ : ∃ b, l[k]? = some b := ⟨l[k], List.getElem?_eq_getElem hkl⟩
      have hb' := Bd.map_at hb
      show AWp _ _ _ _ _ _ _
      refine awp_seq (awp_block (awp_seq (awp_draw (by kernel_rfl) (by kernel_rfl) ?_)))
      (refine ⟨_, _, _, a_move (gd_none rfl) rfl rfl rfl rfl rfl, (by first | rfl | kernel_rfl), ?_⟩)
      (refine ⟨_, _, _, a_move (gd_none rfl) rfl rfl rfl rfl rfl, (by first | rfl | kernel_rfl), ?_⟩)
      (refine ⟨_, _, _, a_index (gd_none rfl) rfl rfl rfl rfl rfl rfl rfl rfl rfl (by assumption) rfl (by first | assumption | exact szAll_spec rfl | exact Tm.size_all _ | exact Bd.size_all _ | exact ints_size _), (by first | rfl | kernel_rfl), ?_⟩)
      (first | (refine ⟨_, _, _, a_field_bp (gd_none rfl) rfl rfl rfl rfl rfl rfl rfl rfl rfl, (by first | rfl | kernel_rfl), ?_⟩) | (refine ⟨_, _, _, a_field_ad (gd_none rfl) rfl rfl rfl rfl rfl rfl rfl rfl rfl rfl rfl, (by first | rfl | kernel_rfl), ?_⟩) | (refine ⟨_, _, _, a_fieldM (gd_none rfl) rfl rfl rfl rfl rfl rfl rfl rfl rfl, (by first | rfl | kernel_rfl), ?_⟩))
      (first | (refine ⟨_, _, _, a_load_all (gd_none rfl) rfl rfl rfl rfl rfl rfl rfl rfl rfl rfl rfl rfl, (by first | rfl | kernel_rfl), ?_⟩) | (refine ⟨_, _, _, a_load_tok (gd_none rfl) rfl rfl rfl rfl rfl rfl rfl rfl rfl rfl rfl rfl rfl, (by first | rfl | kernel_rfl), ?_⟩) | (refine ⟨_, _, _, a_load_bp (gd_none rfl) rfl rfl rfl rfl rfl rfl rfl rfl rfl rfl rfl rfl, (by first | rfl | kernel_rfl), ?_⟩) | (refine ⟨_, _, _, a_load_ad (gd_none rfl) rfl rfl rfl rfl rfl rfl rfl rfl rfl, (by first | rfl | kernel_rfl), ?_⟩) | (refine ⟨_, _, _, a_load_ptr (gd_none rfl) rfl rfl rfl rfl rfl rfl rfl rfl rfl, (by first | rfl | kernel_rfl), ?_⟩) | (refine ⟨_, _, _, a_load_fld (gd_none rfl) rfl rfl rfl rfl rfl rfl rfl rfl rfl rfl rfl rfl rfl, (by first | rfl | kernel_rfl), ?_⟩) | (refine ⟨_, _, _, a_load_fullv (gd_none rfl) rfl rfl rfl rfl rfl rfl rfl rfl rfl, (by first | rfl | kernel_rfl), ?_⟩))
      (first | (refine ⟨_, _, _, a_field_bp (gd_none rfl) rfl rfl rfl rfl rfl rfl rfl rfl rfl, (by first | rfl | kernel_rfl), ?_⟩) | (refine ⟨_, _, _, a_field_ad (gd_none rfl) rfl rfl rfl rfl rfl rfl rfl rfl rfl rfl rfl, (by first | rfl | kernel_rfl), ?_⟩) | (refine ⟨_, _, _, a_fieldM (gd_none rfl) rfl rfl rfl rfl rfl rfl rfl rfl rfl, (by first | rfl | kernel_rfl), ?_⟩))
      (first | (refine ⟨_, _, _, a_load_all (gd_none rfl) rfl rfl rfl rfl rfl rfl rfl rfl rfl rfl rfl rfl, (by first | rfl | kernel_rfl), ?_⟩) | (refine ⟨_, _, _, a_load_tok (gd_none rfl) rfl rfl rfl rfl rfl rfl rfl rfl rfl rfl rfl rfl rfl, (by first | rfl | kernel_rfl), ?_⟩) | (refine ⟨_, _, _, a_load_bp (gd_none rfl) rfl rfl rfl rfl rfl rfl rfl rfl rfl rfl rfl rfl, (by first | rfl | kernel_rfl), ?_⟩) | (refine ⟨_, _, _, a_load_ad (gd_none rfl) rfl rfl rfl rfl rfl rfl rfl rfl rfl, (by first | rfl | kernel_rfl), ?_⟩) | (refine ⟨_, _, _, a_load_ptr (gd_none rfl) rfl rfl rfl rfl rfl rfl rfl rfl rfl, (by first | rfl | kernel_rfl), ?_⟩) | (refine ⟨_, _, _, a_load_fld (gd_none rfl) rfl rfl rfl rfl rfl rfl rfl rfl rfl rfl rfl rfl rfl, (by first | rfl | kernel_rfl), ?_⟩) | (refine ⟨_, _, _, a_load_fullv (gd_none rfl) rfl rfl rfl rfl rfl rfl rfl rfl rfl, (by first | rfl | kernel_rfl), ?_⟩))
      (refine ⟨_, _, _, a_sub (gd_none rfl) rfl rfl rfl rfl rfl rfl (by first | omega | (simp only [List.length_map, List.length_append, List.length_cons, List.length_nil] <;> omega) | (simp <;> omega)), (by first | rfl | kernel_rfl), ?_⟩)
      (first | (refine ⟨_, _, _, a_eql (gd_none rfl) rfl rfl rfl rfl rfl rfl, (by first | rfl | kernel_rfl), ?_⟩) | (refine ⟨_, _, _, a_beq (gd_none rfl) rfl rfl rfl rfl rfl rfl rfl, (by first | rfl | kernel_rfl), ?_⟩))
      refine ⟨by kernel_rfl, ?_⟩
      show AWp _ _ _ _ _ _ _
      refine awp_cond rfl (fun hc => ?_) (fun hc => awp_skip ?_)
      · have hv : b.v = -1 - f := by simpa using hc
        have e : imgB l (-1 - f) = b.t := by unfold imgB; rw [findB_at hb hv hI]; rfl
        rw [e]
        refine awp_seq (awp_region ?_)
        (refine ⟨_, _, _, a_move (gd_none rfl) rfl rfl rfl rfl rfl, (by first | rfl | kernel_rfl), ?_⟩)
        (refine ⟨_, _, _, a_move (gd_none rfl) rfl rfl rfl rfl rfl, (by first | rfl | kernel_rfl), ?_⟩)
        (refine ⟨_, _, _, a_index (gd_none rfl) rfl rfl rfl rfl rfl rfl rfl rfl rfl (by assumption) rfl (by first | assumption | exact szAll_spec rfl | exact Tm.size_all _ | exact Bd.size_all _ | exact ints_size _), (by first | rfl | kernel_rfl), ?_⟩)
        (first | (refine ⟨_, _, _, a_field_bp (gd_none rfl) rfl rfl rfl rfl rfl rfl rfl rfl rfl, (by first | rfl | kernel_rfl), ?_⟩) | (refine ⟨_, _, _, a_field_ad (gd_none rfl) rfl rfl rfl rfl rfl rfl rfl rfl rfl rfl rfl, (by first | rfl | kernel_rfl), ?_⟩) | (refine ⟨_, _, _, a_fieldM (gd_none rfl) rfl rfl rfl rfl rfl rfl rfl rfl rfl, (by first | rfl | kernel_rfl), ?_⟩))
        (first | (refine ⟨_, _, _, a_load_all (gd_none rfl) rfl rfl rfl rfl rfl rfl rfl rfl rfl rfl rfl rfl, (by first | rfl | kernel_rfl), ?_⟩) | (refine ⟨_, _, _, a_load_tok (gd_none rfl) rfl rfl rfl rfl rfl rfl rfl rfl rfl rfl rfl rfl rfl, (by first | rfl | kernel_rfl), ?_⟩) | (refine ⟨_, _, _, a_load_bp (gd_none rfl) rfl rfl rfl rfl rfl rfl rfl rfl rfl rfl rfl rfl, (by first | rfl | kernel_rfl), ?_⟩) | (refine ⟨_, _, _, a_load_ad (gd_none rfl) rfl rfl rfl rfl rfl rfl rfl rfl rfl, (by first | rfl | kernel_rfl), ?_⟩) | (refine ⟨_, _, _, a_load_ptr (gd_none rfl) rfl rfl rfl rfl rfl rfl rfl rfl rfl, (by first | rfl | kernel_rfl), ?_⟩) | (refine ⟨_, _, _, a_load_fld (gd_none rfl) rfl rfl rfl rfl rfl rfl rfl rfl rfl rfl rfl rfl rfl, (by first | rfl | kernel_rfl), ?_⟩) | (refine ⟨_, _, _, a_load_fullv (gd_none rfl) rfl rfl rfl rfl rfl rfl rfl rfl rfl, (by first | rfl | kernel_rfl), ?_⟩))
        (first | (refine ⟨_, _, _, a_store_all (gd_none rfl) rfl rfl rfl rfl rfl rfl rfl rfl rfl rfl, (by first | rfl | kernel_rfl), ?_⟩) | (refine ⟨_, _, _, a_store (gd_none rfl) rfl rfl rfl rfl rfl rfl rfl rfl rfl rfl, (by first | rfl | kernel_rfl), ?_⟩) | (refine ⟨_, _, _, a_store_fld (gd_none rfl) rfl rfl rfl rfl rfl rfl rfl rfl rfl rfl rfl rfl, (by first | rfl | kernel_rfl), ?_⟩))
        show AWp _ _ _ _ _ _ _
        exact awp_ret (And.intro (.inr rfl) rfl)
      have hv : ¬ b.v = -1 - f := by simpa using hc
      clear hc
      show AWp _ _ _ _ _ _ _
      refine awp_region ?_
      (refine ⟨_, _, _, a_move (gd_none rfl) rfl rfl rfl rfl rfl, (by first | rfl | kernel_rfl), ?_⟩)
      (refine ⟨_, _, _, a_add (gd_none rfl) rfl rfl rfl rfl rfl rfl (by first | omega | (simp only [List.length_map, List.length_append, List.length_cons, List.length_nil] <;> omega) | (simp <;> omega)), (by first | rfl | kernel_rfl), ?_⟩)
      (refine ⟨_, _, _, a_assign (gd_none rfl) rfl rfl rfl rfl rfl, (by first | rfl | kernel_rfl), ?_⟩)
      refine ⟨hkl, fun i c hi hcc => ?_, wk_sub ⟨rfl, rfl, rfl, rfl, rfl, rfl, trivial⟩⟩
      rcases Nat.lt_or_ge i k with h | h
      · exact hI i c h hcc
      · obtain rfl : i = k := by omega
        rw [hb] at hcc
        cases hcc
        exact hv
    · have hkl : k = l.length := by
        simp only [List.length_map, decide_eq_false_iff_not] at hc
        omega
      have e : imgB l (-1 - f) = ⟨f, []⟩ := by
        unfold imgB
        rw [findB_none fun b hb => by
          obtain ⟨i, hi, he⟩ := List.mem_iff_getElem.1 hb
          exact hI i b (by omega) (by rw [List.getElem?_eq_getElem hi, he])]
        show varT (-1 - f) = _
        unfold varT
        rw [show -1 - (-1 - f) = f by omega]
      rw [e]
      show AWp _ _ _ _ _ _ _
      refine awp_seq (awp_region ?_)
      (first | (refine ⟨_, _, _, a_field_bp (gd_none rfl) rfl rfl rfl rfl rfl rfl rfl rfl rfl, (by first | rfl | kernel_rfl), ?_⟩) | (refine ⟨_, _, _, a_field_ad (gd_none rfl) rfl rfl rfl rfl rfl rfl rfl rfl rfl rfl rfl, (by first | rfl | kernel_rfl), ?_⟩) | (refine ⟨_, _, _, a_fieldM (gd_none rfl) rfl rfl rfl rfl rfl rfl rfl rfl rfl, (by first | rfl | kernel_rfl), ?_⟩))
      (first | (refine ⟨_, _, _, a_load_all (gd_none rfl) rfl rfl rfl rfl rfl rfl rfl rfl rfl rfl rfl rfl, (by first | rfl | kernel_rfl), ?_⟩) | (refine ⟨_, _, _, a_load_tok (gd_none rfl) rfl rfl rfl rfl rfl rfl rfl rfl rfl rfl rfl rfl rfl, (by first | rfl | kernel_rfl), ?_⟩) | (refine ⟨_, _, _, a_load_bp (gd_none rfl) rfl rfl rfl rfl rfl rfl rfl rfl rfl rfl rfl rfl, (by first | rfl | kernel_rfl), ?_⟩) | (refine ⟨_, _, _, a_load_ad (gd_none rfl) rfl rfl rfl rfl rfl rfl rfl rfl rfl, (by first | rfl | kernel_rfl), ?_⟩) | (refine ⟨_, _, _, a_load_ptr (gd_none rfl) rfl rfl rfl rfl rfl rfl rfl rfl rfl, (by first | rfl | kernel_rfl), ?_⟩) | (refine ⟨_, _, _, a_load_fld (gd_none rfl) rfl rfl rfl rfl rfl rfl rfl rfl rfl rfl rfl rfl rfl, (by first | rfl | kernel_rfl), ?_⟩) | (refine ⟨_, _, _, a_load_fullv (gd_none rfl) rfl rfl rfl rfl rfl rfl rfl rfl rfl, (by first | rfl | kernel_rfl), ?_⟩))
      (refine ⟨_, _, _, a_build (gd_none rfl) rfl rfl rfl rfl rfl rfl rfl rfl rfl rfl rfl, (by first | rfl | kernel_rfl), ?_⟩)
      (first | (refine ⟨_, _, _, a_store_all (gd_none rfl) rfl rfl rfl rfl rfl rfl rfl rfl rfl rfl, (by first | rfl | kernel_rfl), ?_⟩) | (refine ⟨_, _, _, a_store (gd_none rfl) rfl rfl rfl rfl rfl rfl rfl rfl rfl rfl, (by first | rfl | kernel_rfl), ?_⟩) | (refine ⟨_, _, _, a_store_fld (gd_none rfl) rfl rfl rfl rfl rfl rfl rfl rfl rfl rfl rfl rfl, (by first | rfl | kernel_rfl), ?_⟩))
      show AWp _ _ _ _ _ _ _
      exact awp_ret (And.intro (.inr rfl) rfl)
  have hf : ¬ f < 0 := by simpa using hc
  clear hc
  rw [appR_sym hf]
  show AWp _ _ _ _ _ _ _
  refine awp_seq (awp_region ?_)
  (first | (refine ⟨_, _, _, a_field_bp (gd_none rfl) rfl rfl rfl rfl rfl rfl rfl rfl rfl, (by first | rfl | kernel_rfl), ?_⟩) | (refine ⟨_, _, _, a_field_ad (gd_none rfl) rfl rfl rfl rfl rfl rfl rfl rfl rfl rfl rfl, (by first | rfl | kernel_rfl), ?_⟩) | (refine ⟨_, _, _, a_fieldM (gd_none rfl) rfl rfl rfl rfl rfl rfl rfl rfl rfl, (by first | rfl | kernel_rfl), ?_⟩))
  (first | (refine ⟨_, _, _, a_load_all (gd_none rfl) rfl rfl rfl rfl rfl rfl rfl rfl rfl rfl rfl rfl, (by first | rfl | kernel_rfl), ?_⟩) | (refine ⟨_, _, _, a_load_tok (gd_none rfl) rfl rfl rfl rfl rfl rfl rfl rfl rfl rfl rfl rfl rfl, (by first | rfl | kernel_rfl), ?_⟩) | (refine ⟨_, _, _, a_load_bp (gd_none rfl) rfl rfl rfl rfl rfl rfl rfl rfl rfl rfl rfl rfl, (by first | rfl | kernel_rfl), ?_⟩) | (refine ⟨_, _, _, a_load_ad (gd_none rfl) rfl rfl rfl rfl rfl rfl rfl rfl rfl, (by first | rfl | kernel_rfl), ?_⟩) | (refine ⟨_, _, _, a_load_ptr (gd_none rfl) rfl rfl rfl rfl rfl rfl rfl rfl rfl, (by first | rfl | kernel_rfl), ?_⟩) | (refine ⟨_, _, _, a_load_fld (gd_none rfl) rfl rfl rfl rfl rfl rfl rfl rfl rfl rfl rfl rfl rfl, (by first | rfl | kernel_rfl), ?_⟩) | (refine ⟨_, _, _, a_load_fullv (gd_none rfl) rfl rfl rfl rfl rfl rfl rfl rfl rfl, (by first | rfl | kernel_rfl), ?_⟩))
  (refine ⟨_, _, _, a_build (gd_none rfl) rfl rfl rfl rfl rfl rfl rfl rfl rfl rfl rfl, (by first | rfl | kernel_rfl), ?_⟩)
  (refine ⟨_, _, _, a_alloc (gd_none rfl) rfl rfl rfl rfl rfl rfl rfl rfl rfl rfl, (by first | rfl | kernel_rfl), ?_⟩)
  (first | (refine ⟨_, _, _, a_store_all (gd_none rfl) rfl rfl rfl rfl rfl rfl rfl rfl rfl rfl, (by first | rfl | kernel_rfl), ?_⟩) | (refine ⟨_, _, _, a_store (gd_none rfl) rfl rfl rfl rfl rfl rfl rfl rfl rfl rfl, (by first | rfl | kernel_rfl), ?_⟩) | (refine ⟨_, _, _, a_store_fld (gd_none rfl) rfl rfl rfl rfl rfl rfl rfl rfl rfl rfl rfl rfl, (by first | rfl | kernel_rfl), ?_⟩))
  show AWp _ _ _ _ _ _ _
  refine awp_seq (awp_seq (awp_region ?_))
  (refine ⟨_, _, _, a_assign (gd_none rfl) rfl rfl rfl rfl rfl, (by first | rfl | kernel_rfl), ?_⟩)
  show AWp _ _ _ _ _ _ _
  refine awp_block (awp_count ts.length (fun k => [(0, .val (.lst (l.map Bd.cv))), (3, .bp 3 0 []), (100003, .bx (Tm.cw ⟨f, ts⟩)), (4, .bp 4 0 []), (100004, ⟨5, .row [.i 0, .lst []], 1, 0, [1]⟩), (6, .bp 6 0 []), (100006, ⟨5, .row [.i f, .lst (((ts.take k).map (appR l)).map Tm.cv)], 200054, 0, [1]⟩), (200054, .tok 24 2), (7, .val (.i k))])
    ((wk_nil 100006 200054 24 2 rfl rfl rfl rfl rfl rfl rfl).trans (wk_sub ⟨rfl, rfl, rfl, rfl, rfl, rfl, rfl, rfl, rfl, trivial⟩)) ?_)
  intro k hk
  refine awp_seq (awp_seq (awp_region ?_))
  (refine ⟨_, _, _, a_move (gd_none rfl) rfl rfl rfl rfl rfl, (by first | rfl | kernel_rfl), ?_⟩)
  (first | (refine ⟨_, _, _, a_field_bp (gd_none rfl) rfl rfl rfl rfl rfl rfl rfl rfl rfl, (by first | rfl | kernel_rfl), ?_⟩) | (refine ⟨_, _, _, a_field_ad (gd_none rfl) rfl rfl rfl rfl rfl rfl rfl rfl rfl rfl rfl, (by first | rfl | kernel_rfl), ?_⟩) | (refine ⟨_, _, _, a_fieldM (gd_none rfl) rfl rfl rfl rfl rfl rfl rfl rfl rfl, (by first | rfl | kernel_rfl), ?_⟩))
  (first | (refine ⟨_, _, _, a_load_all (gd_none rfl) rfl rfl rfl rfl rfl rfl rfl rfl rfl rfl rfl rfl, (by first | rfl | kernel_rfl), ?_⟩) | (refine ⟨_, _, _, a_load_tok (gd_none rfl) rfl rfl rfl rfl rfl rfl rfl rfl rfl rfl rfl rfl rfl, (by first | rfl | kernel_rfl), ?_⟩) | (refine ⟨_, _, _, a_load_bp (gd_none rfl) rfl rfl rfl rfl rfl rfl rfl rfl rfl rfl rfl rfl, (by first | rfl | kernel_rfl), ?_⟩) | (refine ⟨_, _, _, a_load_ad (gd_none rfl) rfl rfl rfl rfl rfl rfl rfl rfl rfl, (by first | rfl | kernel_rfl), ?_⟩) | (refine ⟨_, _, _, a_load_ptr (gd_none rfl) rfl rfl rfl rfl rfl rfl rfl rfl rfl, (by first | rfl | kernel_rfl), ?_⟩) | (refine ⟨_, _, _, a_load_fld (gd_none rfl) rfl rfl rfl rfl rfl rfl rfl rfl rfl rfl rfl rfl rfl, (by first | rfl | kernel_rfl), ?_⟩) | (refine ⟨_, _, _, a_load_fullv (gd_none rfl) rfl rfl rfl rfl rfl rfl rfl rfl rfl, (by first | rfl | kernel_rfl), ?_⟩))
  (first | (refine ⟨_, _, _, a_len (gd_none rfl) rfl rfl rfl rfl rfl rfl rfl, (by first | rfl | kernel_rfl), ?_⟩) | (refine ⟨_, _, _, a_lenM (gd_none rfl) rfl rfl rfl rfl rfl rfl rfl, (by first | rfl | kernel_rfl), ?_⟩))
  (refine ⟨_, _, _, a_lss (gd_none rfl) rfl rfl rfl rfl rfl rfl, (by first | rfl | kernel_rfl), ?_⟩)
  show AWp _ _ _ _ _ _ _
  refine awp_cond rfl (fun hc => awp_skip ?_) (fun hc => awp_exit ?_)
  · have hkl : k < ts.length := by
      simp only [List.length_map, decide_eq_true_eq] at hc
      omega
    clear hc
    obtain ⟨t, ht⟩ : ∃ t, ts[k]? = some t := ⟨ts[k], List.getElem?_eq_getElem hkl⟩
    have ht' := Tm.map_at ht
    have htm := List.mem_of_getElem? ht
    show AWp _ _ _ _ _ _ _
    refine awp_seq (awp_block (awp_draw (by kernel_rfl) (by kernel_rfl) ?_))
    (first | (refine ⟨_, _, _, a_field_bp (gd_none rfl) rfl rfl rfl rfl rfl rfl rfl rfl rfl, (by first | rfl | kernel_rfl), ?_⟩) | (refine ⟨_, _, _, a_field_ad (gd_none rfl) rfl rfl rfl rfl rfl rfl rfl rfl rfl rfl rfl, (by first | rfl | kernel_rfl), ?_⟩) | (refine ⟨_, _, _, a_fieldM (gd_none rfl) rfl rfl rfl rfl rfl rfl rfl rfl rfl, (by first | rfl | kernel_rfl), ?_⟩))
    (first | (refine ⟨_, _, _, a_load_all (gd_none rfl) rfl rfl rfl rfl rfl rfl rfl rfl rfl rfl rfl rfl, (by first | rfl | kernel_rfl), ?_⟩) | (refine ⟨_, _, _, a_load_tok (gd_none rfl) rfl rfl rfl rfl rfl rfl rfl rfl rfl rfl rfl rfl rfl, (by first | rfl | kernel_rfl), ?_⟩) | (refine ⟨_, _, _, a_load_bp (gd_none rfl) rfl rfl rfl rfl rfl rfl rfl rfl rfl rfl rfl rfl, (by first | rfl | kernel_rfl), ?_⟩) | (refine ⟨_, _, _, a_load_ad (gd_none rfl) rfl rfl rfl rfl rfl rfl rfl rfl rfl, (by first | rfl | kernel_rfl), ?_⟩) | (refine ⟨_, _, _, a_load_ptr (gd_none rfl) rfl rfl rfl rfl rfl rfl rfl rfl rfl, (by first | rfl | kernel_rfl), ?_⟩) | (refine ⟨_, _, _, a_load_fld (gd_none rfl) rfl rfl rfl rfl rfl rfl rfl rfl rfl rfl rfl rfl rfl, (by first | rfl | kernel_rfl), ?_⟩) | (refine ⟨_, _, _, a_load_fullv (gd_none rfl) rfl rfl rfl rfl rfl rfl rfl rfl rfl, (by first | rfl | kernel_rfl), ?_⟩))
    (refine ⟨_, _, _, a_move (gd_none rfl) rfl rfl rfl rfl rfl, (by first | rfl | kernel_rfl), ?_⟩)
    (first | (refine ⟨_, _, _, a_field_bp (gd_none rfl) rfl rfl rfl rfl rfl rfl rfl rfl rfl, (by first | rfl | kernel_rfl), ?_⟩) | (refine ⟨_, _, _, a_field_ad (gd_none rfl) rfl rfl rfl rfl rfl rfl rfl rfl rfl rfl rfl, (by first | rfl | kernel_rfl), ?_⟩) | (refine ⟨_, _, _, a_fieldM (gd_none rfl) rfl rfl rfl rfl rfl rfl rfl rfl rfl, (by first | rfl | kernel_rfl), ?_⟩))
    (first | (refine ⟨_, _, _, a_load_all (gd_none rfl) rfl rfl rfl rfl rfl rfl rfl rfl rfl rfl rfl rfl, (by first | rfl | kernel_rfl), ?_⟩) | (refine ⟨_, _, _, a_load_tok (gd_none rfl) rfl rfl rfl rfl rfl rfl rfl rfl rfl rfl rfl rfl rfl, (by first | rfl | kernel_rfl), ?_⟩) | (refine ⟨_, _, _, a_load_bp (gd_none rfl) rfl rfl rfl rfl rfl rfl rfl rfl rfl rfl rfl rfl, (by first | rfl | kernel_rfl), ?_⟩) | (refine ⟨_, _, _, a_load_ad (gd_none rfl) rfl rfl rfl rfl rfl rfl rfl rfl rfl, (by first | rfl | kernel_rfl), ?_⟩) | (refine ⟨_, _, _, a_load_ptr (gd_none rfl) rfl rfl rfl rfl rfl rfl rfl rfl rfl, (by first | rfl | kernel_rfl), ?_⟩) | (refine ⟨_, _, _, a_load_fld (gd_none rfl) rfl rfl rfl rfl rfl rfl rfl rfl rfl rfl rfl rfl rfl, (by first | rfl | kernel_rfl), ?_⟩) | (refine ⟨_, _, _, a_load_fullv (gd_none rfl) rfl rfl rfl rfl rfl rfl rfl rfl rfl, (by first | rfl | kernel_rfl), ?_⟩))
    (refine ⟨_, _, _, a_move (gd_none rfl) rfl rfl rfl rfl rfl, (by first | rfl | kernel_rfl), ?_⟩)
    (refine ⟨_, _, _, a_index (gd_none rfl) rfl rfl rfl rfl rfl rfl rfl rfl rfl (by assumption) rfl (by first | assumption | exact szAll_spec rfl | exact Tm.size_all _ | exact Bd.size_all _ | exact ints_size _), (by first | rfl | kernel_rfl), ?_⟩)
    (first | (refine ⟨_, _, _, a_load_all (gd_none rfl) rfl rfl rfl rfl rfl rfl rfl rfl rfl rfl rfl rfl, (by first | rfl | kernel_rfl), ?_⟩) | (refine ⟨_, _, _, a_load_tok (gd_none rfl) rfl rfl rfl rfl rfl rfl rfl rfl rfl rfl rfl rfl rfl, (by first | rfl | kernel_rfl), ?_⟩) | (refine ⟨_, _, _, a_load_bp (gd_none rfl) rfl rfl rfl rfl rfl rfl rfl rfl rfl rfl rfl rfl, (by first | rfl | kernel_rfl), ?_⟩) | (refine ⟨_, _, _, a_load_ad (gd_none rfl) rfl rfl rfl rfl rfl rfl rfl rfl rfl, (by first | rfl | kernel_rfl), ?_⟩) | (refine ⟨_, _, _, a_load_ptr (gd_none rfl) rfl rfl rfl rfl rfl rfl rfl rfl rfl, (by first | rfl | kernel_rfl), ?_⟩) | (refine ⟨_, _, _, a_load_fld (gd_none rfl) rfl rfl rfl rfl rfl rfl rfl rfl rfl rfl rfl rfl rfl, (by first | rfl | kernel_rfl), ?_⟩) | (refine ⟨_, _, _, a_load_fullv (gd_none rfl) rfl rfl rfl rfl rfl rfl rfl rfl rfl, (by first | rfl | kernel_rfl), ?_⟩))
    (refine ⟨_, _, _, a_call (gd_none rfl) rfl rfl rfl rfl rfl ((ih t htm (hr.2 t htm) (hok t htm)).up hW), (by first | rfl | kernel_rfl), ?_⟩)
    (refine ⟨_, _, _, a_bslice (gd_none rfl) rfl rfl rfl rfl rfl rfl rfl rfl rfl rfl rfl rfl rfl, (by first | rfl | kernel_rfl), ?_⟩)
    (first | (refine ⟨_, _, _, a_app (gd_none rfl) rfl rfl rfl rfl rfl rfl rfl rfl rfl rfl rfl rfl rfl rfl rfl (by first | assumption | exact szAll_spec rfl | exact Tm.size_all _ | exact Bd.size_all _ | exact ints_size _) (by first | assumption | exact szAll_spec rfl | exact Tm.size_all _ | exact Bd.size_all _ | exact ints_size _) (by first | omega | (simp only [List.length_map, List.length_append, List.length_cons, List.length_nil] <;> omega) | (simp <;> omega)), (by first | rfl | kernel_rfl), ?_⟩) | (refine ⟨_, _, _, a_app_nil (gd_none rfl) rfl rfl rfl rfl rfl rfl rfl rfl rfl rfl rfl (by first | assumption | exact szAll_spec rfl | exact Tm.size_all _ | exact Bd.size_all _ | exact ints_size _) (by first | assumption | exact szAll_spec rfl | exact Tm.size_all _ | exact Bd.size_all _ | exact ints_size _) (by first | omega | (simp only [List.length_map, List.length_append, List.length_cons, List.length_nil] <;> omega) | (simp <;> omega)), (by first | rfl | kernel_rfl), ?_⟩))
    (first | (refine ⟨_, _, _, a_field_bp (gd_none rfl) rfl rfl rfl rfl rfl rfl rfl rfl rfl, (by first | rfl | kernel_rfl), ?_⟩) | (refine ⟨_, _, _, a_field_ad (gd_none rfl) rfl rfl rfl rfl rfl rfl rfl rfl rfl rfl rfl, (by first | rfl | kernel_rfl), ?_⟩) | (refine ⟨_, _, _, a_fieldM (gd_none rfl) rfl rfl rfl rfl rfl rfl rfl rfl rfl, (by first | rfl | kernel_rfl), ?_⟩))
    (first | (refine ⟨_, _, _, a_store_all (gd_none rfl) rfl rfl rfl rfl rfl rfl rfl rfl rfl rfl, (by first | rfl | kernel_rfl), ?_⟩) | (refine ⟨_, _, _, a_store (gd_none rfl) rfl rfl rfl rfl rfl rfl rfl rfl rfl rfl, (by first | rfl | kernel_rfl), ?_⟩) | (refine ⟨_, _, _, a_store_fld (gd_none rfl) rfl rfl rfl rfl rfl rfl rfl rfl rfl rfl rfl rfl, (by first | rfl | kernel_rfl), ?_⟩))
    refine ⟨by kernel_rfl, ?_⟩
    show AWp _ _ _ _ _ _ _
    refine awp_region ?_
    (refine ⟨_, _, _, a_move (gd_none rfl) rfl rfl rfl rfl rfl, (by first | rfl | kernel_rfl), ?_⟩)
    (refine ⟨_, _, _, a_add (gd_none rfl) rfl rfl rfl rfl rfl rfl (by first | omega | (simp only [List.length_map, List.length_append, List.length_cons, List.length_nil] <;> omega) | (simp <;> omega)), (by first | rfl | kernel_rfl), ?_⟩)
    (refine ⟨_, _, _, a_assign (gd_none rfl) rfl rfl rfl rfl rfl, (by first | rfl | kernel_rfl), ?_⟩)
    refine ⟨hkl, Wk.trans (wk_sub (s' := [(0, .val (.lst (l.map Bd.cv))), (3, .bp 3 0 []), (100003, .bx (Tm.cw ⟨f, ts⟩)), (4, .bp 4 0 []), (100004, ⟨5, .row [.i 0, .lst []], 1, 0, [1]⟩), (6, .bp 6 0 []), (100006, ⟨5, .row [.i f, .lst (((ts.take (k + 1)).map (appR l)).map Tm.cv)], 300054, 0, [1]⟩), (300054, .tok 24 2), (7, .val (.i ((k + 1 : Nat) : Int)))]) ⟨rfl, rfl, rfl, rfl, rfl, rfl, ?_, rfl, rfl, trivial⟩) (wk_ren 300054 200054 rfl rfl rfl rfl)⟩
    rw [List.take_add_one, ht, List.map_append, List.map_append]
    simp only [Option.toList_some, List.map_cons, List.map_nil, Tm.cv_eq]
    rfl
  · have hkl : k = ts.length := by
      simp only [List.length_map, decide_eq_false_iff_not] at hc
      omega
    subst hkl
    rw [List.take_length]
    show AWp _ _ _ _ _ _ _
    refine awp_seq (awp_region ?_)
    (first | (refine ⟨_, _, _, a_load_all (gd_none rfl) rfl rfl rfl rfl rfl rfl rfl rfl rfl rfl rfl rfl, (by first | rfl | kernel_rfl), ?_⟩) | (refine ⟨_, _, _, a_load_tok (gd_none rfl) rfl rfl rfl rfl rfl rfl rfl rfl rfl rfl rfl rfl rfl, (by first | rfl | kernel_rfl), ?_⟩) | (refine ⟨_, _, _, a_load_bp (gd_none rfl) rfl rfl rfl rfl rfl rfl rfl rfl rfl rfl rfl rfl, (by first | rfl | kernel_rfl), ?_⟩) | (refine ⟨_, _, _, a_load_ad (gd_none rfl) rfl rfl rfl rfl rfl rfl rfl rfl rfl, (by first | rfl | kernel_rfl), ?_⟩) | (refine ⟨_, _, _, a_load_ptr (gd_none rfl) rfl rfl rfl rfl rfl rfl rfl rfl rfl, (by first | rfl | kernel_rfl), ?_⟩) | (refine ⟨_, _, _, a_load_fld (gd_none rfl) rfl rfl rfl rfl rfl rfl rfl rfl rfl rfl rfl rfl rfl, (by first | rfl | kernel_rfl), ?_⟩) | (refine ⟨_, _, _, a_load_fullv (gd_none rfl) rfl rfl rfl rfl rfl rfl rfl rfl rfl, (by first | rfl | kernel_rfl), ?_⟩))
    (first | (refine ⟨_, _, _, a_store_all (gd_none rfl) rfl rfl rfl rfl rfl rfl rfl rfl rfl rfl, (by first | rfl | kernel_rfl), ?_⟩) | (refine ⟨_, _, _, a_store (gd_none rfl) rfl rfl rfl rfl rfl rfl rfl rfl rfl rfl, (by first | rfl | kernel_rfl), ?_⟩) | (refine ⟨_, _, _, a_store_fld (gd_none rfl) rfl rfl rfl rfl rfl rfl rfl rfl rfl rfl rfl rfl, (by first | rfl | kernel_rfl), ?_⟩))
    show AWp _ _ _ _ _ _ _
    exact awp_ret (And.intro (.inr rfl) rfl)
end Go.Proofs.Ytgmllfjidhbjjaa

namespace Go.Proofs.Ytgmllfjidhbjjaa
set_option linter.unusedVariables false
set_option linter.unusedSimpArgs false

theorem rep_congr {f g : Int → Tm} {t : Tm} (h : ∀ v ∈ t.vs, f v = g v) : repT f t = repT g t := by
  induction t using Tm.indp with
  | h t ih =>
    by_cases hf : t.f < 0
    · rw [Tm.vs_var hf] at h
      rw [repT_var hf, repT_var hf, h _ (by simp)]
    · rw [Tm.vs_sym hf] at h
      rw [Tm.ps_of_sym (by omega)] at ih
      rw [repT_sym hf, repT_sym hf]
      congr 1
      exact List.map_congr_left fun s hs => ih s hs fun v hv => h v (List.mem_flatMap.2 ⟨s, hs, hv⟩)
theorem varT_strip (v : Int) : (varT v).strip = varT v := by
  rw [Tm.strip_eq]
  have : (varT v).ps = [] := by unfold Tm.ps varT; simp
  rw [this]; rfl
theorem rep_comp (img : Int → Tm) (g : Int → Int) {t : Tm} (h : ∀ v ∈ t.vs, 0 ≤ g v) : repT img (repT (fun v => varT (g v)) t) = repT (fun v => img (g v)) t := by
  induction t using Tm.indp with
  | h t ih =>
    by_cases hf : t.f < 0
    · rw [Tm.vs_var hf] at h
      have h := h _ (List.mem_singleton.2 rfl)
      rw [repT_var hf, repT_var hf, varT_strip, repT_var (by show -1 - g (-1 - t.f) < 0; omega)]
      show (img (-1 - (-1 - g (-1 - t.f)))).strip = _
      rw [show -1 - (-1 - g (-1 - t.f)) = g (-1 - t.f) by omega]
    · rw [Tm.vs_sym hf] at h
      rw [Tm.ps_of_sym (by omega)] at ih
      rw [repT_sym hf, repT_sym (t := ⟨t.f, _⟩) hf, repT_sym hf]
      simp only [List.map_map]
      congr 1
      exact List.map_congr_left fun s hs => ih s hs fun v hv => h v (List.mem_flatMap.2 ⟨s, hs, hv⟩)
theorem rep_id (t : Tm) : repT varT t = t.strip := by
  induction t using Tm.indp with
  | h t ih =>
    by_cases hf : t.f < 0
    · rw [repT_var hf, varT_strip, Tm.strip_eq, Tm.ps_of_var hf]
      unfold varT
      rw [show -1 - (-1 - t.f) = t.f by omega]; rfl
    · rw [Tm.ps_of_sym (by omega)] at ih
      rw [repT_sym hf, Tm.strip_eq, Tm.ps_of_sym (by omega)]
      congr 1
      exact List.map_congr_left fun s hs => ih s hs
theorem rep_strip (img : Int → Tm) (t : Tm) : repT img t.strip = repT img t := by
  induction t using Tm.indp with
  | h t ih =>
    by_cases hf : t.f < 0
    · rw [repT_var hf, repT_var (by rw [Tm.strip_f]; exact hf), Tm.strip_f]
    · rw [Tm.ps_of_sym (by omega)] at ih
      rw [repT_sym hf, repT_sym (by rw [Tm.strip_f]; exact hf), Tm.strip_f, Tm.strip_l, Tm.ps_of_sym (by omega), List.map_map]
      congr 1
      exact List.map_congr_left fun s hs => ih s hs
theorem rep_bare (img : Int → Tm) (t : Tm) : (repT img t).strip = repT img t := by
  induction t using Tm.indp with
  | h t ih =>
    by_cases hf : t.f < 0
    · rw [repT_var hf, Tm.strip_strip]
    · rw [Tm.ps_of_sym (by omega)] at ih
      rw [repT_sym hf, Tm.strip_eq, Tm.ps_of_sym (t := ⟨t.f, _⟩) (by show 0 ≤ t.f; omega)]
      simp only [List.map_map]
      congr 1
      exact List.map_congr_left fun s hs => ih s hs
theorem ren_vs' (g : Int → Int) (t : Tm) (h : ∀ v ∈ t.vs, 0 ≤ g v) : (repT (fun v => varT (g v)) t).vs = t.vs.map g := by
  rw [repT_vs]
  generalize t.vs = l at h ⊢
  induction l with
  | nil => rfl
  | cons v l ih =>
    rw [List.flatMap_cons, ih (fun x hx => h x (List.mem_cons_of_mem _ hx)), List.map_cons, varT_vs (h v (by simp))]
    rfl

theorem nub_nodup (l : List Int) : (nub l).Nodup := by
  induction l using snoc_ind with
  | h0 => exact List.nodup_nil
  | h1 l x ih =>
    rw [nub_snoc]
    split
    · exact ih
    · rename_i hx
      rw [List.nodup_append]
      refine ⟨ih, by simp, fun a ha b hb e => ?_⟩
      rw [List.mem_singleton] at hb
      exact hx (by rw [← hb, ← e]; exact ha)
/-- Where it stands first. -/
def ixOf : List Int → Int → Nat
  | [], _ => 0
  | x :: l, v => if x = v then 0 else ixOf l v + 1
theorem ixOf_lt : ∀ {l : List Int} {v : Int}, v ∈ l → ixOf l v < l.length
  | x :: l, v, h => by
    rw [ixOf]
    split
    · simp
    · rename_i e
      have := ixOf_lt (l := l) (v := v) ((List.mem_cons.1 h).resolve_left fun c => e c.symm)
      simp; omega
theorem ixOf_at : ∀ {l : List Int} {v : Int}, v ∈ l → l[ixOf l v]? = some v
  | x :: l, v, h => by
    rw [ixOf]
    split
    · rename_i e; simp [e]
    · rename_i e
      rw [List.getElem?_cons_succ]
      exact ixOf_at ((List.mem_cons.1 h).resolve_left fun c => e c.symm)
theorem ixOf_nodup : ∀ {l : List Int} {i : Nat} {v : Int}, l.Nodup → l[i]? = some v → ixOf l v = i
  | x :: l, 0, v, hn, h => by simp at h; rw [ixOf, if_pos h]
  | x :: l, i + 1, v, hn, h => by
    rw [List.getElem?_cons_succ] at h
    rw [List.nodup_cons] at hn
    have hne : ¬ x = v := fun e => hn.1 (by rw [e]; exact List.mem_of_getElem? h)
    rw [ixOf, if_neg hne, ixOf_nodup hn.2 h]
def zipB (a b : List Int) : List Bd := List.zipWith (fun v u => ⟨v, varT u⟩) a b
def nums (n : Nat) : List Int := (List.range n).map fun i : Nat => (i : Int)
theorem nums_at {n i : Nat} (h : i < n) : (nums n)[i]? = some (i : Int) := by
  unfold nums
  rw [List.getElem?_map, List.getElem?_range h]; rfl
theorem nums_len (n : Nat) : (nums n).length = n := by simp [nums]
theorem img_zip : ∀ {a b : List Int} {v : Int}, a.length = b.length → v ∈ a → imgB (zipB a b) v = varT (b.getD (ixOf a v) 0)
  | x :: a, y :: b, v, hl, h => by
    show ((findB (⟨x, varT y⟩ :: zipB a b) v).getD (varT v)) = _
    rw [findB, ixOf]
    split
    · rfl
    · rename_i e
      have := img_zip (a := a) (b := b) (v := v) (by simpa using hl) ((List.mem_cons.1 h).resolve_left fun c => e c.symm)
      rw [List.getD_cons_succ]
      exact this
theorem getD_of {l : List Int} {i : Nat} {v : Int} (h : l[i]? = some v) : l.getD i 0 = v := by rw [List.getD_eq_getElem?_getD, h]; rfl
/-- A term's numbers of variables, each once. -/
def Tm.nv (t : Tm) : List Int := nub t.vs
theorem nv_vars (t : Tm) : varsF t.flat = t.nv := varsF_nub _
def canT (t : Tm) : Tm := repT (imgB (zipB t.nv (nums t.nv.length))) t
def vntB (a b : Tm) : Bool := decide (a.nv.length = b.nv.length) && sameT (repT (imgB (zipB a.nv b.nv)) a) b
theorem canT_eq (t : Tm) : canT t = repT (fun v => varT (ixOf t.nv v : Nat)) t := by
  unfold canT
  refine rep_congr fun v hv => ?_
  have hv : v ∈ t.nv := (mem_nub _ _).2 hv
  rw [img_zip (nums_len _).symm hv, getD_of (nums_at (ixOf_lt hv))]
theorem canT_vs (t : Tm) : (canT t).vs = t.vs.map fun v => ((ixOf t.nv v : Nat) : Int) := by
  rw [canT_eq]
  exact ren_vs' _ t fun v hv => by omega
theorem canT_nv (t : Tm) : (canT t).nv.length = t.nv.length := by
  unfold Tm.nv
  rw [canT_vs, nub_map, List.length_map]
  · intro x hx y hy e
    have h1 := ixOf_at ((mem_nub _ _).2 hx)
    have h2 := ixOf_at ((mem_nub _ _).2 hy)
    unfold Tm.nv at e
    rw [show ixOf (nub t.vs) x = ixOf (nub t.vs) y by omega, h2] at h1
    exact (Option.some.inj h1).symm
theorem vnt_iff (a b : Tm) : vntB a b = sameT (canT a) (canT b) := by
  rw [Bool.eq_iff_iff]
  unfold vntB
  rw [Bool.and_eq_true, decide_eq_true_eq, sameT_iff, sameT_iff, rep_bare]
  have cb : ∀ t, (canT t).strip = canT t := fun t => rep_bare _ _
  rw [cb, cb]
  constructor
  · rintro ⟨hl, h⟩
    rw [canT_eq, canT_eq, ← rep_strip _ b, ← h]
    have e : repT (imgB (zipB a.nv b.nv)) a = repT (fun v => varT (b.nv.getD (ixOf a.nv v) 0)) a := rep_congr fun v hv => img_zip hl ((mem_nub _ _).2 hv)
    have hat : ∀ v ∈ a.vs, b.nv[ixOf a.nv v]? = some (b.nv.getD (ixOf a.nv v) 0) := fun v hv => by
      have := ixOf_lt (l := a.nv) ((mem_nub _ _).2 hv)
      rw [hl] at this
      rw [List.getD_eq_getElem?_getD, List.getElem?_eq_getElem this]; rfl
    rw [e, rep_comp _ _ fun v hv => vs_nonneg b _ ((mem_nub _ _).1 (List.mem_of_getElem? (hat v hv)))]
    exact rep_congr fun v hv => by rw [ixOf_nodup (l := b.nv) (nub_nodup _) (hat v hv)]
  · intro h
    have hl : a.nv.length = b.nv.length := by rw [← canT_nv a, ← canT_nv b, h]
    refine ⟨hl, ?_⟩
    have h2 : repT (fun v => varT (b.nv.getD v.toNat 0)) (canT a) = repT (fun v => varT (b.nv.getD v.toNat 0)) (canT b) := by rw [h]
    rw [canT_eq, canT_eq, rep_comp _ _ fun v hv => by omega, rep_comp _ _ fun v hv => by omega] at h2
    have e1 : repT (imgB (zipB a.nv b.nv)) a = repT (fun v => varT (b.nv.getD ((ixOf a.nv v : Nat) : Int).toNat 0)) a := rep_congr fun v hv => img_zip hl ((mem_nub _ _).2 hv)
    have e2 : repT (fun v => varT (b.nv.getD ((ixOf b.nv v : Nat) : Int).toNat 0)) b = repT varT b := rep_congr fun v hv => by
      rw [Int.toNat_natCast, getD_of (ixOf_at (l := b.nv) ((mem_nub _ _).2 hv))]
    rw [e1, h2, e2, rep_id]
theorem vnt_symm (a b : Tm) : vntB b a = sameT (canT a) (canT b) := by
  rw [vnt_iff, Bool.eq_iff_iff, sameT_iff, sameT_iff]
  exact eq_comm
theorem vnt_ren (a : Tm) (g : Int → Int) (h0 : ∀ v ∈ a.vs, 0 ≤ g v) (hg : ∀ x ∈ a.vs, ∀ y ∈ a.vs, g x = g y → x = y) : vntB a (repT (fun v => varT (g v)) a) = true := by
  have e : (repT (fun v => varT (g v)) a).nv = a.nv.map g := by
    unfold Tm.nv
    rw [ren_vs' g a h0, nub_map g _ hg]
  unfold vntB
  rw [e, Bool.and_eq_true, decide_eq_true_eq, sameT_iff]
  refine ⟨by simp, congrArg Tm.strip (rep_congr fun v hv => ?_)⟩
  have hm : v ∈ a.nv := (mem_nub a.vs v).2 hv
  rw [img_zip (by simp [Tm.nv]) hm]
  congr 1
  refine getD_of ?_
  rw [List.getElem?_map]
  show Option.map g (a.nv)[ixOf a.nv v]? = _
  rw [ixOf_at (l := a.nv) hm]; rfl
end Go.Proofs.Ytgmllfjidhbjjaa

namespace Go.Proofs.Ytgmllfjidhbjjaa
set_option linter.unusedVariables false

/-- A variable is bound, or what it is bound to is held against the term. -/
def bindM (L : List Bd) (v : Int) (t : Tm) : Bool × List Bd :=
  match findB L v with
  | some u => (sameT u t, L)
  | none => (true, L ++ [⟨v, t⟩])

def pairM (r : Bool × List Bd) (k : List Bd → Bool × List Bd) : Bool × List Bd := match r with
  | (true, L) => k L
  | (false, L) => (false, L)
noncomputable def mt (p : Tm) : Tm → List Bd → Bool × List Bd :=
  Tm.rec (motive_1 := fun _ => Tm → List Bd → Bool × List Bd) (motive_2 := fun _ => List Tm → List Bd → Bool × List Bd)
    (fun f l ih t L => if f < 0 then bindM L (-1 - f) t else if f ≠ t.f ∨ l.length ≠ t.l.length then (false, L) else ih t.l L)
    (fun _ L => (true, L))
    (fun _ _ ih1 ih2 ts L => match ts with | [] => (true, L) | t :: ts => pairM (ih1 t L) (ih2 ts)) p
noncomputable def mts (ps : List Tm) : List Tm → List Bd → Bool × List Bd :=
  Tm.rec_1 (motive_1 := fun _ => Tm → List Bd → Bool × List Bd) (motive_2 := fun _ => List Tm → List Bd → Bool × List Bd)
    (fun f l ih t L => if f < 0 then bindM L (-1 - f) t else if f ≠ t.f ∨ l.length ≠ t.l.length then (false, L) else ih t.l L)
    (fun _ L => (true, L))
    (fun _ _ ih1 ih2 ts L => match ts with | [] => (true, L) | t :: ts => pairM (ih1 t L) (ih2 ts)) ps
theorem mt_eq (p t : Tm) (L : List Bd) : mt p t L = if p.f < 0 then bindM L (-1 - p.f) t else if p.f ≠ t.f ∨ p.l.length ≠ t.l.length then (false, L) else mts p.l t.l L := by cases p; rfl
theorem mt_var {p : Tm} (t : Tm) (L : List Bd) (h : p.f < 0) : mt p t L = bindM L (-1 - p.f) t := by rw [mt_eq, if_pos h]
theorem mt_ne {p t : Tm} (L : List Bd) (h : ¬ p.f < 0) (h2 : p.f ≠ t.f ∨ p.l.length ≠ t.l.length) : mt p t L = (false, L) := by rw [mt_eq, if_neg h, if_pos h2]
theorem mt_sym {p t : Tm} (L : List Bd) (h : ¬ p.f < 0) (h2 : p.f = t.f) (h3 : p.l.length = t.l.length) : mt p t L = mts p.l t.l L := by rw [mt_eq, if_neg h, if_neg (by omega)]
theorem mts_nil (ts : List Tm) (L : List Bd) : mts [] ts L = (true, L) := rfl
theorem mts_cons (p : Tm) (ps : List Tm) (t : Tm) (ts : List Tm) (L : List Bd) : mts (p :: ps) (t :: ts) L = pairM (mt p t L) (mts ps ts) := rfl
theorem mts_none (p : Tm) (ps : List Tm) (L : List Bd) : mts (p :: ps) [] L = (true, L) := rfl
theorem pairM_t {r : Bool × List Bd} {k : List Bd → Bool × List Bd} (h : r.1 = true) : pairM r k = k r.2 := by
  obtain ⟨b, L⟩ := r; simp at h; subst h; rfl
theorem pairM_f {r : Bool × List Bd} {k : List Bd → Bool × List Bd} (h : r.1 = false) : pairM r k = (false, r.2) := by
  obtain ⟨b, L⟩ := r; simp at h; subst h; rfl
/-- One more. -/
theorem mts_snoc : ∀ {ps ts : List Tm} {p t : Tm} {L : List Bd}, ps.length = ts.length → mts (ps ++ [p]) (ts ++ [t]) L = pairM (mts ps ts L) (mt p t)
  | [], [], p, t, L, _ => by
    show pairM (mt p t L) (mts [] []) = mt p t L
    cases h : (mt p t L).1 with
    | true => rw [pairM_t h, mts_nil, ← h]
    | false => rw [pairM_f h, ← h]
  | [], _ :: _, p, t, L, h => by simp at h
  | _ :: _, [], p, t, L, h => by simp at h
  | x :: ps, y :: ts, p, t, L, h => by
    rw [List.cons_append, List.cons_append, mts_cons, mts_cons]
    cases h1 : (mt x y L).1 with
    | true => rw [pairM_t h1, pairM_t h1]; exact mts_snoc (by simpa using h)
    | false => rw [pairM_f h1, pairM_f h1]; rfl
theorem mts_take {ps ts : List Tm} (hl : ps.length = ts.length) {k : Nat} {p t : Tm} (hp : ps[k]? = some p) (ht : ts[k]? = some t) (L : List Bd) : mts (ps.take (k + 1)) (ts.take (k + 1)) L = pairM (mts (ps.take k) (ts.take k) L) (mt p t) := by
  rw [List.take_add_one, List.take_add_one, hp, ht]
  exact mts_snoc (by simp [hl])
/-- What came first tells it. -/
theorem mts_stop : ∀ {ps ts : List Tm} (k : Nat) {L : List Bd}, (mts (ps.take k) (ts.take k) L).1 = false → mts ps ts L = mts (ps.take k) (ts.take k) L
  | [], ts, k, L, h => by rw [List.take_nil, mts_nil] at h; cases h
  | p :: ps, [], k, L, h => by
    cases k with
    | zero => cases h
    | succ k => cases h
  | p :: ps, t :: ts, 0, L, h => by cases h
  | p :: ps, t :: ts, k + 1, L, h => by
    rw [List.take_succ_cons, List.take_succ_cons, mts_cons] at h ⊢
    rw [mts_cons]
    cases h1 : (mt p t L).1 with
    | true => rw [pairM_t h1] at h ⊢; rw [pairM_t h1]; exact mts_stop k h
    | false => rw [pairM_f h1, pairM_f h1]

/-- What is there stays; for each variable there is at most one more. -/
def Grw (L L' : List Bd) (n : Nat) : Prop := ∃ N, L' = L ++ N ∧ N.length ≤ n
theorem Grw.refl (L : List Bd) (n : Nat) : Grw L L n := ⟨[], by simp, Nat.zero_le _⟩
theorem Grw.trans {L L' L'' : List Bd} {m n : Nat} (h : Grw L L' m) (h2 : Grw L' L'' n) : Grw L L'' (m + n) := by
  obtain ⟨N, e1, l1⟩ := h
  obtain ⟨M, e2, l2⟩ := h2
  exact ⟨N ++ M, by rw [e2, e1, List.append_assoc], by rw [List.length_append]; omega⟩
theorem Grw.mono {L L' : List Bd} {m n : Nat} (h : Grw L L' m) (h2 : m ≤ n) : Grw L L' n := by
  obtain ⟨N, e1, l1⟩ := h
  exact ⟨N, e1, by omega⟩
theorem Grw.le {L L' : List Bd} {m : Nat} (h : Grw L L' m) : L.length ≤ L'.length ∧ L'.length ≤ L.length + m := by
  obtain ⟨N, e1, l1⟩ := h
  rw [e1, List.length_append]; omega
theorem bindM_grw (L : List Bd) (v : Int) (t : Tm) : Grw L (bindM L v t).2 1 := by
  unfold bindM
  split
  · exact Grw.refl _ _
  · exact ⟨[⟨v, t⟩], rfl, Nat.le_refl _⟩
theorem mts_grw : ∀ {ps : List Tm}, (∀ p ∈ ps, ∀ t L, Grw L (mt p t L).2 p.vs.length) → ∀ ts L, Grw L (mts ps ts L).2 (ps.flatMap Tm.vs).length
  | [], _, ts, L => by rw [mts_nil]; exact Grw.refl _ _
  | p :: ps, _, [], L => Grw.refl _ _
  | p :: ps, h, t :: ts, L => by
    rw [mts_cons, List.flatMap_cons, List.length_append]
    have h1 := h p (by simp) t L
    cases h2 : (mt p t L).1 with
    | true => rw [pairM_t h2]; exact h1.trans (mts_grw (fun q hq => h q (List.mem_cons_of_mem _ hq)) ts _)
    | false => rw [pairM_f h2]; exact h1.mono (by omega)
theorem mt_grw (p : Tm) : ∀ t L, Grw L (mt p t L).2 p.vs.length := by
  induction p using Tm.ind with
  | h f l ih =>
    intro t L
    by_cases hf : f < 0
    · rw [mt_var _ _ hf, Tm.vs_var hf]; exact bindM_grw _ _ _
    · by_cases h2 : f ≠ t.f ∨ l.length ≠ t.l.length
      · rw [mt_ne _ hf h2]; exact Grw.refl _ _
      · rw [mt_sym _ hf (by show f = _; omega) (by show l.length = _; omega), Tm.vs_sym hf]
        exact mts_grw ih _ _
theorem mts_grw' (ps ts : List Tm) (L : List Bd) : Grw L (mts ps ts L).2 (ps.flatMap Tm.vs).length := mts_grw (fun p _ => mt_grw p) ts L

theorem findB_app (L N : List Bd) (v : Int) : findB (L ++ N) v = (findB L v).or (findB N v) := by
  induction L with
  | nil => simp [findB]
  | cons b L ih =>
    rw [List.cons_append, findB, findB]
    split
    · rfl
    · exact ih
/-- What is bound is what M says. -/
def Ext (L : List Bd) (M : Int → Tm) : Prop := ∀ v u, findB L v = some u → (M v).strip = u.strip
theorem Ext.left {L L' : List Bd} {M : Int → Tm} {n : Nat} (h : Ext L' M) (hg : Grw L L' n) : Ext L M := by
  obtain ⟨N, e, _⟩ := hg
  intro v u hu
  exact h v u (by rw [e, findB_app, hu]; rfl)
theorem bindM_sound {L : List Bd} {v : Int} {t : Tm} {M : Int → Tm} (h : (bindM L v t).1 = true) (hM : Ext (bindM L v t).2 M) : (M v).strip = t.strip := by
  unfold bindM at h hM
  split at h
  · rename_i u hu
    rw [hu] at hM
    rw [hM v u hu]
    exact (sameT_iff _ _).1 h
  · rename_i hu
    rw [hu] at hM
    exact hM v t (by rw [findB_app, hu]; simp [findB])
theorem bindM_most {L : List Bd} {v : Int} {t : Tm} {M : Int → Tm} (hM : Ext L M) (h : (M v).strip = t.strip) : (bindM L v t).1 = true ∧ Ext (bindM L v t).2 M := by
  unfold bindM
  split
  · rename_i u hu
    exact ⟨(sameT_iff _ _).2 ((hM v u hu).symm.trans h), hM⟩
  · rename_i hu
    refine ⟨rfl, fun w u hw => ?_⟩
    rw [findB_app] at hw
    cases h1 : findB L w with
    | some x => rw [h1] at hw; cases hw; exact hM w _ h1
    | none =>
      rw [h1] at hw
      simp only [findB, Option.none_or] at hw
      split at hw
      · rename_i e; subst e; cases hw; exact h
      · cases hw
theorem tm_eq {f g : Int} {l m : List Tm} (h : (⟨f, l⟩ : Tm) = ⟨g, m⟩) : f = g ∧ l = m := by cases h; exact ⟨rfl, rfl⟩
theorem stripSym {t : Tm} (h : ¬ t.f < 0) : t.strip = ⟨t.f, t.l.map Tm.strip⟩ := by rw [Tm.strip_eq, Tm.ps_of_sym (by omega)]
theorem mts_sound : ∀ {ps ts : List Tm} {L : List Bd} {M : Int → Tm}, (∀ p ∈ ps, ∀ t L, (mt p t L).1 = true → Ext (mt p t L).2 M → repT M p = t.strip) → ps.length = ts.length → (mts ps ts L).1 = true → Ext (mts ps ts L).2 M → ps.map (repT M) = ts.map Tm.strip
  | [], [], _, _, _, _, _, _ => rfl
  | [], _ :: _, _, _, _, h, _, _ => by simp at h
  | _ :: _, [], _, _, _, h, _, _ => by simp at h
  | p :: ps, t :: ts, L, M, ih, hl, h, hM => by
    rw [mts_cons] at h hM
    cases h1 : (mt p t L).1 with
    | false => rw [pairM_f h1] at h; cases h
    | true =>
      rw [pairM_t h1] at h hM
      rw [List.map_cons, List.map_cons, ih p (by simp) t L h1 (hM.left (mts_grw' ps ts _)), mts_sound (fun q hq => ih q (List.mem_cons_of_mem _ hq)) (by simpa using hl) h hM]
/-- What was bound makes of the pattern the term. -/
theorem mt_sound (M : Int → Tm) (p : Tm) : ∀ t L, (mt p t L).1 = true → Ext (mt p t L).2 M → repT M p = t.strip := by
  induction p using Tm.ind with
  | h f l ih =>
    intro t L h hM
    by_cases hf : f < 0
    · rw [mt_var _ _ hf] at h hM
      rw [repT_var hf]
      exact bindM_sound h hM
    · by_cases h2 : f ≠ t.f ∨ l.length ≠ t.l.length
      · rw [mt_ne _ hf h2] at h; cases h
      · rw [mt_sym _ hf (by show f = _; omega) (by show l.length = _; omega)] at h hM
        rw [repT_sym hf, stripSym (by omega)]
        have := mts_sound ih (by omega) h hM
        show (⟨f, l.map (repT M)⟩ : Tm) = _
        rw [this, show f = t.f by omega]
theorem mts_most : ∀ {ps ts : List Tm} {L : List Bd} {M : Int → Tm}, (∀ p ∈ ps, ∀ t L, Ext L M → repT M p = t.strip → (mt p t L).1 = true ∧ Ext (mt p t L).2 M) → Ext L M → ps.map (repT M) = ts.map Tm.strip → (mts ps ts L).1 = true ∧ Ext (mts ps ts L).2 M
  | [], ts, L, M, _, hM, _ => ⟨rfl, hM⟩
  | p :: ps, [], L, M, _, hM, h => by simp at h
  | p :: ps, t :: ts, L, M, ih, hM, h => by
    rw [List.map_cons, List.map_cons] at h
    injection h with h1 h2
    obtain ⟨g1, g2⟩ := ih p (by simp) t L hM h1
    rw [mts_cons, pairM_t g1]
    exact mts_most (fun q hq => ih q (List.mem_cons_of_mem _ hq)) g2 h2
/-- Where there is something that can be put in, it is found. -/
theorem mt_most (M : Int → Tm) (p : Tm) : ∀ t L, Ext L M → repT M p = t.strip → (mt p t L).1 = true ∧ Ext (mt p t L).2 M := by
  induction p using Tm.ind with
  | h f l ih =>
    intro t L hM h
    by_cases hf : f < 0
    · rw [repT_var hf] at h
      rw [mt_var _ _ hf]
      exact bindM_most hM h
    · rw [repT_sym hf] at h
      have hf2 : f = t.f := by have := congrArg Tm.f h; rw [Tm.strip_f] at this; exact this
      rw [stripSym (by omega)] at h
      obtain ⟨_, h3⟩ := tm_eq h
      have hl : l.length = t.l.length := by have := congrArg List.length h3; simpa using this
      rw [mt_sym _ hf hf2 hl]
      exact mts_most ih hM h3
/-- Which numbers are bound. -/
theorem bindM_has (L : List Bd) (v : Int) (t : Tm) : (findB (bindM L v t).2 v).isSome := by
  unfold bindM
  split
  · rename_i u hu; rw [hu]; rfl
  · rename_i hu; rw [findB_app, hu]; simp [findB]
theorem Grw.some {L L' : List Bd} {n : Nat} (h : Grw L L' n) {v : Int} (hv : (findB L v).isSome) : findB L' v = findB L v := by
  obtain ⟨N, e, _⟩ := h
  obtain ⟨u, hu⟩ := Option.isSome_iff_exists.1 hv
  rw [e, findB_app, hu]; rfl
theorem mts_has : ∀ {ps ts : List Tm} {L : List Bd}, (∀ p ∈ ps, ∀ t L, (mt p t L).1 = true → ∀ v ∈ p.vs, (findB (mt p t L).2 v).isSome) → ps.length = ts.length → (mts ps ts L).1 = true → ∀ v ∈ ps.flatMap Tm.vs, (findB (mts ps ts L).2 v).isSome
  | [], _, _, _, _, _, v, hv => by simp at hv
  | _ :: _, [], _, _, h, _, _, _ => by simp at h
  | p :: ps, t :: ts, L, ih, hl, h, v, hv => by
    rw [mts_cons] at h ⊢
    cases h1 : (mt p t L).1 with
    | false => rw [pairM_f h1] at h; cases h
    | true =>
      rw [pairM_t h1] at h ⊢
      rw [List.flatMap_cons, List.mem_append] at hv
      rcases hv with hv | hv
      · have := ih p (by simp) t L h1 v hv
        rw [(mts_grw' ps ts _).some this]; exact this
      · exact mts_has (fun q hq => ih q (List.mem_cons_of_mem _ hq)) (by simpa using hl) h v hv
theorem mt_has (p : Tm) : ∀ t L, (mt p t L).1 = true → ∀ v ∈ p.vs, (findB (mt p t L).2 v).isSome := by
  induction p using Tm.ind with
  | h f l ih =>
    intro t L h v hv
    by_cases hf : f < 0
    · rw [mt_var _ _ hf]
      rw [Tm.vs_var hf, List.mem_singleton] at hv
      rw [hv]; exact bindM_has _ _ _
    · by_cases h2 : f ≠ t.f ∨ l.length ≠ t.l.length
      · rw [mt_ne _ hf h2] at h; cases h
      · rw [mt_sym _ hf (by show f = _; omega) (by show l.length = _; omega)] at h ⊢
        rw [Tm.vs_sym hf] at hv
        exact mts_has ih (by show l.length = _; omega) h v hv
end Go.Proofs.Ytgmllfjidhbjjaa

namespace Go.Proofs.Ytgmllfjidhbjjaa
open Go.RowKit
set_option linter.unusedVariables false
set_option linter.unusedSimpArgs false
set_option maxRecDepth 100000

section
variable {α : Type} (lt : α → α → Bool) (a : Nat)
/-- The element at j goes down as long as it is less. -/
def sink : Nat → List α → List α
  | 0, L => L
  | j + 1, L => match L[j + 1]?, L[j]? with
    | some x, some y => if a < j + 1 ∧ lt x y = true then sink j ((L.set (j + 1) y).set j x) else L
    | _, _ => L
def isortN : Nat → Nat → List α → List α
  | 0, _, L => L
  | n + 1, i, L => isortN n (i + 1) (sink lt a i L)
theorem sink_len : ∀ (j : Nat) (L : List α), (sink lt a j L).length = L.length
  | 0, L => rfl
  | j + 1, L => by
    unfold sink
    split
    · split
      · rw [sink_len j]; simp
      · rfl
    · rfl
theorem sink_stop {j : Nat} {L : List α} (h : ¬ a < j) : sink lt a j L = L := by
  cases j with
  | zero => rfl
  | succ j => unfold sink; split <;> simp [h]
theorem sink_no {j : Nat} {L : List α} {x y : α} (hx : L[j + 1]? = some x) (hy : L[j]? = some y) (h : lt x y = false) : sink lt a (j + 1) L = L := by
  unfold sink; rw [hx, hy]; simp [h]
theorem sink_yes {j : Nat} {L : List α} {x y : α} (hx : L[j + 1]? = some x) (hy : L[j]? = some y) (ha : a < j + 1) (h : lt x y = true) : sink lt a (j + 1) L = sink lt a j ((L.set (j + 1) y).set j x) := by
  conv => lhs; unfold sink
  rw [hx, hy]; simp [h, ha]
theorem isortN_len : ∀ (n i : Nat) (L : List α), (isortN lt a n i L).length = L.length
  | 0, _, L => rfl
  | n + 1, i, L => by rw [isortN, isortN_len n, sink_len]
end

def ltC (cmp : Bd → Bd → Int) (x y : Bd) : Bool := decide (cmp x y < 0)
theorem set_map_cv (l : List Bd) (j : Nat) (b : Bd) : (l.map Bd.cv).set j b.cw = (l.set j b).map Bd.cv := by rw [List.map_set]; rfl

-- 
theorem insSort_abs (cmp : Bd → Bd → Int) (fc : CV) (L0 : List Bd) (a b : Nat) (ha : a ≤ L0.length) (hb : b ≤ L0.length) (hn : L0.length ≤ 1000000000) (hc : ∀ W x y, AFunW Try.prog W fc [x.cw, y.cw] (.val (.i (cmp x y)))) :
    AFunO Try.prog 108 [(400000, .mrow 61 3 (L0.map Bd.cv))] [.sl 400000 0 L0.length 3, .val (.i a), .val (.i b), .val fc] (.tup []) [(400000, .mrow 61 3 ((isortN (ltC cmp) a (b - (a + 1)) (a + 1) L0).map Bd.cv))] := by
  refine afunO_of Try.func108 Try.ntmps108 rfl rfl rfl rfl rfl rfl ?_
  intro w U hU
  obtain ⟨T, hT⟩ : ∃ T, T = isortN (ltC cmp) a (b - (a + 1)) (a + 1) L0 := ⟨_, rfl⟩
  rw [← hT]
  refine awp_seq (awp_region ?_)
  (refine ⟨_, _, _, a_move (gd_none rfl) rfl rfl rfl rfl rfl, (by first | rfl | kernel_rfl), ?_⟩)
  (refine ⟨_, _, _, a_add (gd_none rfl) rfl rfl rfl rfl rfl rfl (by first | omega | (simp only [List.length_map, List.length_append, List.length_cons, List.length_nil] <;> omega) | (simp <;> omega)), (by first | rfl | kernel_rfl), ?_⟩)
  (refine ⟨_, _, _, a_assign (gd_none rfl) rfl rfl rfl rfl rfl, (by first | rfl | kernel_rfl), ?_⟩)
  show AWp _ _ _ _ _ _ _
  let st : Nat → List Bd → AS := fun i L => [(0, .sl 400000 0 L0.length 3), (1, .val (.i a)), (2, .val (.i b)), (3, .val fc), (8, .val (.i i)), (400000, .mrow 61 3 (L.map Bd.cv))]
  refine awp_block (awp_loop (fun m s => ∃ i L, m = (b + 1) - i ∧ L.length = L0.length ∧ a + 1 ≤ i ∧ isortN (ltC cmp) a (b - i) i L = T ∧ s = st i L) (s' := st (a + 1) L0) (wk_sub ⟨rfl, rfl, rfl, rfl, rfl, rfl, trivial⟩) ⟨a + 1, L0, rfl, rfl, Nat.le_refl _, hT.symm, rfl⟩ ?_)
  rintro m s ⟨i, L, rfl, hL, hi, hI, rfl⟩
  refine awp_seq (awp_seq (awp_region ?_))
  (refine ⟨_, _, _, a_move (gd_none rfl) rfl rfl rfl rfl rfl, (by first | rfl | kernel_rfl), ?_⟩)
  (refine ⟨_, _, _, a_move (gd_none rfl) rfl rfl rfl rfl rfl, (by first | rfl | kernel_rfl), ?_⟩)
  (refine ⟨_, _, _, a_lss (gd_none rfl) rfl rfl rfl rfl rfl rfl, (by first | rfl | kernel_rfl), ?_⟩)
  show AWp _ _ _ _ _ _ _
  refine awp_cond rfl (fun hlt => ?_) (fun hlt => ?_)
  · have hib : i < b := by simpa using hlt
    refine awp_skip ?_
    show AWp _ _ _ _ _ _ _
    refine awp_seq (awp_block (awp_seq (awp_region ?_)))
    (refine ⟨_, _, _, a_move (gd_none rfl) rfl rfl rfl rfl rfl, (by first | rfl | kernel_rfl), ?_⟩)
    (refine ⟨_, _, _, a_assign (gd_none rfl) rfl rfl rfl rfl rfl, (by first | rfl | kernel_rfl), ?_⟩)
    show AWp _ _ _ _ _ _ _
    let st2 : Nat → List Bd → AS := fun j L => [(0, .sl 400000 0 L0.length 3), (1, .val (.i a)), (2, .val (.i b)), (3, .val fc), (8, .val (.i i)), (9, .val (.i j)), (400000, .mrow 61 3 (L.map Bd.cv))]
    refine awp_block (awp_loop (fun m s => ∃ j L', m = j ∧ L'.length = L0.length ∧ j ≤ i ∧ sink (ltC cmp) a j L' = sink (ltC cmp) a i L ∧ s = st2 j L') (s' := st2 i L) (wk_sub ⟨rfl, rfl, rfl, rfl, rfl, rfl, rfl, trivial⟩) ⟨i, L, rfl, hL, Nat.le_refl _, rfl, rfl⟩ ?_)
    rintro m s ⟨j, L', hmj, hL', hji, hJ, rfl⟩
    by_cases hja : a < j
    · obtain ⟨j, rfl⟩ : ∃ k, j = k + 1 := ⟨j - 1, by omega⟩
      obtain ⟨x, hx⟩ : ∃ x, L'[j + 1]? = some x := ⟨L'[j + 1]'(by omega), List.getElem?_eq_getElem (by omega)⟩
      obtain ⟨y, hy⟩ : ∃ y, L'[j]? = some y := ⟨L'[j]'(by omega), List.getElem?_eq_getElem (by omega)⟩
      have hx' := Bd.map_at hx
      have hy' := Bd.map_at hy
      have g : decide (((j + 1 : Nat) : Int) > (a : Int)) = true := by simp; omega
      refine awp_seq (awp_seq (awp_draw (by kernel_rfl) (by kernel_rfl) ?_))
      (refine ⟨_, _, _, a_move (gd_none rfl) rfl rfl rfl rfl rfl, (by first | rfl | kernel_rfl), ?_⟩)
      (refine ⟨_, _, _, a_move (gd_none rfl) rfl rfl rfl rfl rfl, (by first | rfl | kernel_rfl), ?_⟩)
      (refine ⟨_, _, _, a_gtr (gd_none rfl) rfl rfl rfl rfl rfl rfl, (by first | rfl | kernel_rfl), ?_⟩)
      (refine ⟨_, _, _, a_move (gd_none rfl) rfl rfl rfl rfl rfl, (by first | rfl | kernel_rfl), ?_⟩)
      (refine ⟨_, _, _, a_move (gd_on rfl rfl rfl rfl (by first | rfl | assumption | (simp; done))) rfl rfl rfl rfl rfl, (by first | rfl | kernel_rfl), ?_⟩)
      (refine ⟨_, _, _, a_move (gd_on rfl rfl rfl rfl (by first | rfl | assumption | (simp; done))) rfl rfl rfl rfl rfl, (by first | rfl | kernel_rfl), ?_⟩)
      (refine ⟨_, _, _, a_move (gd_on rfl rfl rfl rfl (by first | rfl | assumption | (simp; done))) rfl rfl rfl rfl rfl, (by first | rfl | kernel_rfl), ?_⟩)
      (refine ⟨_, _, _, a_indexM (k := j + 1) (gd_on rfl rfl rfl rfl (by first | rfl | assumption | (simp; done))) rfl rfl rfl rfl rfl rfl rfl rfl rfl (by first | rfl | omega | (simp only [List.length_set, List.length_map, List.length_append, List.length_cons, List.length_nil] <;> omega) | (simp <;> omega)), (by first | rfl | kernel_rfl), ?_⟩)
      (refine ⟨_, _, _, a_loadM (gd_on rfl rfl rfl rfl (by first | rfl | assumption | (simp; done))) rfl rfl rfl rfl rfl rfl rfl rfl (hx') rfl (by first | rfl | omega | (simp only [List.length_set, List.length_map, List.length_append, List.length_cons, List.length_nil] <;> omega) | (simp <;> omega)) rfl rfl, (by first | rfl | kernel_rfl), ?_⟩)
      (refine ⟨_, _, _, a_move (gd_on rfl rfl rfl rfl (by first | rfl | assumption | (simp; done))) rfl rfl rfl rfl rfl, (by first | rfl | kernel_rfl), ?_⟩)
      (refine ⟨_, _, _, a_move (gd_on rfl rfl rfl rfl (by first | rfl | assumption | (simp; done))) rfl rfl rfl rfl rfl, (by first | rfl | kernel_rfl), ?_⟩)
      (refine ⟨_, _, _, a_sub (gd_on rfl rfl rfl rfl (by first | rfl | assumption | (simp; done))) rfl rfl rfl rfl rfl rfl (by first | omega | (simp only [List.length_map, List.length_append, List.length_cons, List.length_nil] <;> omega) | (simp <;> omega)), (by first | rfl | kernel_rfl), ?_⟩)
      (refine ⟨_, _, _, a_indexM (k := j) (gd_on rfl rfl rfl rfl (by first | rfl | assumption | (simp; done))) rfl rfl rfl rfl rfl rfl rfl rfl rfl (by first | rfl | omega | (simp only [List.length_set, List.length_map, List.length_append, List.length_cons, List.length_nil] <;> omega) | (simp <;> omega)), (by first | rfl | kernel_rfl), ?_⟩)
      (refine ⟨_, _, _, a_loadM (gd_on rfl rfl rfl rfl (by first | rfl | assumption | (simp; done))) rfl rfl rfl rfl rfl rfl rfl rfl (hy') rfl (by first | rfl | omega | (simp only [List.length_set, List.length_map, List.length_append, List.length_cons, List.length_nil] <;> omega) | (simp <;> omega)) rfl rfl, (by first | rfl | kernel_rfl), ?_⟩)
      (refine ⟨_, _, _, a_callw (gd_on rfl rfl rfl rfl (by first | rfl | assumption | (simp; done))) rfl rfl rfl rfl rfl rfl (hc _ x y), (by first | rfl | kernel_rfl), ?_⟩)
      (refine ⟨_, _, _, a_lss (gd_on rfl rfl rfl rfl (by first | rfl | assumption | (simp; done))) rfl rfl rfl rfl rfl rfl, (by first | rfl | kernel_rfl), ?_⟩)
      (first | (refine ⟨_, _, _, a_pick_t (gd_none rfl) rfl rfl rfl rfl rfl ?hb rfl, rfl, ?_⟩; case hb => (first | rfl | assumption | (simp; done))) | (refine ⟨_, _, _, a_pick_f (gd_none rfl) rfl rfl rfl rfl rfl ?hb rfl, rfl, ?_⟩; case hb => (first | rfl | assumption | (simp; done))))
      refine ⟨by kernel_rfl, ?_⟩
      show AWp _ _ _ _ _ _ _
      refine awp_cond rfl (fun hc1 => ?_) (fun hc1 => ?_)
      · have hlt2 : ltC cmp x y = true := hc1
        refine awp_skip ?_
        show AWp _ _ _ _ _ _ _
        refine AWp.wk (wk_sub (s' := st2 (j + 1) L') ⟨rfl, rfl, rfl, rfl, rfl, rfl, rfl, trivial⟩) ?_
        refine awp_seq (awp_block (awp_draw (by kernel_rfl) (by kernel_rfl) ?_))
        (refine ⟨_, _, _, a_move (gd_none rfl) rfl rfl rfl rfl rfl, (by first | rfl | kernel_rfl), ?_⟩)
        (refine ⟨_, _, _, a_move (gd_none rfl) rfl rfl rfl rfl rfl, (by first | rfl | kernel_rfl), ?_⟩)
        (refine ⟨_, _, _, a_move (gd_none rfl) rfl rfl rfl rfl rfl, (by first | rfl | kernel_rfl), ?_⟩)
        (refine ⟨_, _, _, a_move (gd_none rfl) rfl rfl rfl rfl rfl, (by first | rfl | kernel_rfl), ?_⟩)
        (refine ⟨_, _, _, a_sub (gd_none rfl) rfl rfl rfl rfl rfl rfl (by first | omega | (simp only [List.length_map, List.length_append, List.length_cons, List.length_nil] <;> omega) | (simp <;> omega)), (by first | rfl | kernel_rfl), ?_⟩)
        (refine ⟨_, _, _, a_move (gd_none rfl) rfl rfl rfl rfl rfl, (by first | rfl | kernel_rfl), ?_⟩)
        (refine ⟨_, _, _, a_move (gd_none rfl) rfl rfl rfl rfl rfl, (by first | rfl | kernel_rfl), ?_⟩)
        (refine ⟨_, _, _, a_sub (gd_none rfl) rfl rfl rfl rfl rfl rfl (by first | omega | (simp only [List.length_map, List.length_append, List.length_cons, List.length_nil] <;> omega) | (simp <;> omega)), (by first | rfl | kernel_rfl), ?_⟩)
        (refine ⟨_, _, _, a_indexM (k := j) (gd_none rfl) rfl rfl rfl rfl rfl rfl rfl rfl rfl (by first | rfl | omega | (simp only [List.length_set, List.length_map, List.length_append, List.length_cons, List.length_nil] <;> omega) | (simp <;> omega)), (by first | rfl | kernel_rfl), ?_⟩)
        (refine ⟨_, _, _, a_loadM (gd_none rfl) rfl rfl rfl rfl rfl rfl rfl rfl (hy') rfl (by first | rfl | omega | (simp only [List.length_set, List.length_map, List.length_append, List.length_cons, List.length_nil] <;> omega) | (simp <;> omega)) rfl rfl, (by first | rfl | kernel_rfl), ?_⟩)
        (refine ⟨_, _, _, a_move (gd_none rfl) rfl rfl rfl rfl rfl, (by first | rfl | kernel_rfl), ?_⟩)
        (refine ⟨_, _, _, a_move (gd_none rfl) rfl rfl rfl rfl rfl, (by first | rfl | kernel_rfl), ?_⟩)
        (refine ⟨_, _, _, a_indexM (k := j + 1) (gd_none rfl) rfl rfl rfl rfl rfl rfl rfl rfl rfl (by first | rfl | omega | (simp only [List.length_set, List.length_map, List.length_append, List.length_cons, List.length_nil] <;> omega) | (simp <;> omega)), (by first | rfl | kernel_rfl), ?_⟩)
        (refine ⟨_, _, _, a_loadM (gd_none rfl) rfl rfl rfl rfl rfl rfl rfl rfl (hx') rfl (by first | rfl | omega | (simp only [List.length_set, List.length_map, List.length_append, List.length_cons, List.length_nil] <;> omega) | (simp <;> omega)) rfl rfl, (by first | rfl | kernel_rfl), ?_⟩)
        (refine ⟨_, _, _, a_indexM (k := j + 1) (gd_none rfl) rfl rfl rfl rfl rfl rfl rfl rfl rfl (by first | rfl | omega | (simp only [List.length_set, List.length_map, List.length_append, List.length_cons, List.length_nil] <;> omega) | (simp <;> omega)), (by first | rfl | kernel_rfl), ?_⟩)
        (refine ⟨_, _, _, a_storeM (gd_none rfl) rfl rfl rfl rfl rfl rfl (hx') rfl rfl (by first | rfl | omega | (simp only [List.length_set, List.length_map, List.length_append, List.length_cons, List.length_nil] <;> omega) | (simp <;> omega)) rfl, (by first | rfl | kernel_rfl), ?_⟩)
        (refine ⟨_, _, _, a_indexM (k := j) (gd_none rfl) rfl rfl rfl rfl rfl rfl rfl rfl rfl (by first | rfl | omega | (simp only [List.length_set, List.length_map, List.length_append, List.length_cons, List.length_nil] <;> omega) | (simp <;> omega)), (by first | rfl | kernel_rfl), ?_⟩)
        (refine ⟨_, _, _, a_storeM (gd_none rfl) rfl rfl rfl rfl rfl rfl ((by rw [List.getElem?_set_ne (by omega)]; exact hy')) rfl rfl (by first | rfl | omega | (simp only [List.length_set, List.length_map, List.length_append, List.length_cons, List.length_nil] <;> omega) | (simp <;> omega)) rfl, (by first | rfl | kernel_rfl), ?_⟩)
        refine ⟨by kernel_rfl, ?_⟩
        show AWp _ _ _ _ _ _ _
        refine awp_region ?_
        (refine ⟨_, _, _, a_move (gd_none rfl) rfl rfl rfl rfl rfl, (by first | rfl | kernel_rfl), ?_⟩)
        (refine ⟨_, _, _, a_sub (gd_none rfl) rfl rfl rfl rfl rfl rfl (by first | omega | (simp only [List.length_map, List.length_append, List.length_cons, List.length_nil] <;> omega) | (simp <;> omega)), (by first | rfl | kernel_rfl), ?_⟩)
        (refine ⟨_, _, _, a_assign (gd_none rfl) rfl rfl rfl rfl rfl, (by first | rfl | kernel_rfl), ?_⟩)
        refine ⟨j, st2 j ((L'.set (j + 1) y).set j x), by omega, ⟨j, _, rfl, by simp [hL'], by omega, ?_, rfl⟩, wk_sub ⟨rfl, rfl, rfl, rfl, rfl, ?_, ?_, trivial⟩⟩
        · rw [← hJ, sink_yes _ _ hx hy hja hlt2]
        · show some (AV.val (.i _)) = some (AV.val (.i _))
          congr 3; omega
        · show some (AV.mrow _ _ _) = some (AV.mrow _ _ _)
          rw [set_map_cv, set_map_cv]
      · have hlt2 : ltC cmp x y = false := hc1
        refine awp_exit ?_
        show AWp _ _ _ _ _ _ _
        refine AWp.wk (wk_sub (s' := st2 (j + 1) L') ⟨rfl, rfl, rfl, rfl, rfl, rfl, rfl, trivial⟩) ?_
        refine awp_region ?_
        (refine ⟨_, _, _, a_move (gd_none rfl) rfl rfl rfl rfl rfl, (by first | rfl | kernel_rfl), ?_⟩)
        (refine ⟨_, _, _, a_add (gd_none rfl) rfl rfl rfl rfl rfl rfl (by first | omega | (simp only [List.length_map, List.length_append, List.length_cons, List.length_nil] <;> omega) | (simp <;> omega)), (by first | rfl | kernel_rfl), ?_⟩)
        (refine ⟨_, _, _, a_assign (gd_none rfl) rfl rfl rfl rfl rfl, (by first | rfl | kernel_rfl), ?_⟩)
        refine ⟨(b + 1) - (i + 1), st (i + 1) L', by omega, ⟨i + 1, L', rfl, hL', by omega, ?_, rfl⟩, wk_sub ⟨rfl, rfl, rfl, rfl, rfl, rfl, trivial⟩⟩
        have hs : L' = sink (ltC cmp) a i L := by rw [← hJ, sink_no _ _ hx hy hlt2]
        rw [← hI, show b - i = (b - (i + 1)) + 1 by omega, isortN, hs]
    · have g : decide ((j : Int) > (a : Int)) = false := by simp; omega
      refine awp_seq (awp_seq (awp_draw (by kernel_rfl) (by kernel_rfl) ?_))
      (refine ⟨_, _, _, a_move (gd_none rfl) rfl rfl rfl rfl rfl, (by first | rfl | kernel_rfl), ?_⟩)
      (refine ⟨_, _, _, a_move (gd_none rfl) rfl rfl rfl rfl rfl, (by first | rfl | kernel_rfl), ?_⟩)
      (refine ⟨_, _, _, a_gtr (gd_none rfl) rfl rfl rfl rfl rfl rfl, (by first | rfl | kernel_rfl), ?_⟩)
      (refine ⟨_, _, _, a_move (gd_none rfl) rfl rfl rfl rfl rfl, (by first | rfl | kernel_rfl), ?_⟩)
      (refine ⟨_, _, _, a_off (go_off rfl rfl rfl rfl (by first | rfl | assumption | (simp; done) | (simp [*]; done))) rfl rfl rfl, rfl, ?_⟩)
      (refine ⟨_, _, _, a_off (go_off rfl rfl rfl rfl (by first | rfl | assumption | (simp; done) | (simp [*]; done))) rfl rfl rfl, rfl, ?_⟩)
      (refine ⟨_, _, _, a_off (go_off rfl rfl rfl rfl (by first | rfl | assumption | (simp; done) | (simp [*]; done))) rfl rfl rfl, rfl, ?_⟩)
      (refine ⟨_, _, _, a_off (go_off rfl rfl rfl rfl (by first | rfl | assumption | (simp; done) | (simp [*]; done))) rfl rfl rfl, rfl, ?_⟩)
      (refine ⟨_, _, _, a_off (go_off rfl rfl rfl rfl (by first | rfl | assumption | (simp; done) | (simp [*]; done))) rfl rfl rfl, rfl, ?_⟩)
      (refine ⟨_, _, _, a_off (go_off rfl rfl rfl rfl (by first | rfl | assumption | (simp; done) | (simp [*]; done))) rfl rfl rfl, rfl, ?_⟩)
      (refine ⟨_, _, _, a_off (go_off rfl rfl rfl rfl (by first | rfl | assumption | (simp; done) | (simp [*]; done))) rfl rfl rfl, rfl, ?_⟩)
      (refine ⟨_, _, _, a_off (go_off rfl rfl rfl rfl (by first | rfl | assumption | (simp; done) | (simp [*]; done))) rfl rfl rfl, rfl, ?_⟩)
      (refine ⟨_, _, _, a_off (go_off rfl rfl rfl rfl (by first | rfl | assumption | (simp; done) | (simp [*]; done))) rfl rfl rfl, rfl, ?_⟩)
      (refine ⟨_, _, _, a_off (go_off rfl rfl rfl rfl (by first | rfl | assumption | (simp; done) | (simp [*]; done))) rfl rfl rfl, rfl, ?_⟩)
      (refine ⟨_, _, _, a_off (go_off rfl rfl rfl rfl (by first | rfl | assumption | (simp; done) | (simp [*]; done))) rfl rfl rfl, rfl, ?_⟩)
      (refine ⟨_, _, _, a_off (go_off rfl rfl rfl rfl (by first | rfl | assumption | (simp; done) | (simp [*]; done))) rfl rfl rfl, rfl, ?_⟩)
      (first | (refine ⟨_, _, _, a_pick_t (gd_none rfl) rfl rfl rfl rfl rfl ?hb rfl, rfl, ?_⟩; case hb => (first | rfl | assumption | (simp; done))) | (refine ⟨_, _, _, a_pick_f (gd_none rfl) rfl rfl rfl rfl rfl ?hb rfl, rfl, ?_⟩; case hb => (first | rfl | assumption | (simp; done))))
      refine ⟨by kernel_rfl, ?_⟩
      show AWp _ _ _ _ _ _ _
      refine awp_cond rfl (fun hc1 => ?_) (fun hc1 => ?_)
      · cases hc1
      · refine awp_exit ?_
        show AWp _ _ _ _ _ _ _
        refine AWp.wk (wk_sub (s' := st2 (j) L') ⟨rfl, rfl, rfl, rfl, rfl, rfl, rfl, trivial⟩) ?_
        refine awp_region ?_
        (refine ⟨_, _, _, a_move (gd_none rfl) rfl rfl rfl rfl rfl, (by first | rfl | kernel_rfl), ?_⟩)
        (refine ⟨_, _, _, a_add (gd_none rfl) rfl rfl rfl rfl rfl rfl (by first | omega | (simp only [List.length_map, List.length_append, List.length_cons, List.length_nil] <;> omega) | (simp <;> omega)), (by first | rfl | kernel_rfl), ?_⟩)
        (refine ⟨_, _, _, a_assign (gd_none rfl) rfl rfl rfl rfl rfl, (by first | rfl | kernel_rfl), ?_⟩)
        refine ⟨(b + 1) - (i + 1), st (i + 1) L', by omega, ⟨i + 1, L', rfl, hL', by omega, ?_, rfl⟩, wk_sub ⟨rfl, rfl, rfl, rfl, rfl, rfl, trivial⟩⟩
        have hs : L' = sink (ltC cmp) a i L := by rw [← hJ, sink_stop _ _ hja]
        rw [← hI, show b - i = (b - (i + 1)) + 1 by omega, isortN, hs]
  · have hib : ¬ i < b := by simpa using hlt
    refine awp_exit ?_
    refine ⟨.inl rfl, _, Wk.refl _, rfl, ?_, trivial⟩
    show some (AV.mrow _ _ _) = some (AV.mrow _ _ _)
    rw [show b - i = 0 by omega] at hI
    rw [← hI]
    rfl
end Go.Proofs.Ytgmllfjidhbjjaa

namespace Go.Proofs.Ytgmllfjidhbjjaa
open Go.RowKit
set_option linter.unusedVariables false
set_option linter.unusedSimpArgs false
set_option maxRecDepth 100000

theorem cmp_abs (W : World) (x y : Int) : AFun Try.prog W 78 [.i x, .i y] (.val (.i (cmpZ x y))) := by
  refine ⟨ent_of Try.func78 rfl rfl, .inl rfl, rfl, ?_⟩
  rintro U w vs hW ⟨u1, us1, rfl, h1, u2, us2, rfl, h2, h3⟩
  have h3 : us2 = [] := h3
  subst h3
  obtain ⟨rfl, _⟩ := vrep_sc.1 h1
  obtain ⟨rfl, _⟩ := vrep_sc.1 h2
  refine (cmpInt_any x y w).mono ?_
  rintro e w' ⟨rfl, hb⟩
  exact ⟨_, rfl, vrep_sc.2 ⟨rfl, rfl⟩, hb⟩

def cmpB (x y : Bd) : Int := cmpZ x.v y.v
-- 
theorem cmpB_abs (W : World) (x y : Bd) : AFun Try.prog W 87 [x.cw, y.cw] (.val (.i (cmpB x y))) := by
  refine afun_of (rs := [.i (cmpB x y)]) Try.func87 Try.ntmps87 rfl rfl rfl rfl ?_
  intro w U hW
  refine awp_seq (awp_region ?_)
  (refine ⟨_, _, _, a_box (gd_none rfl) rfl rfl rfl rfl rfl, (by first | rfl | kernel_rfl), ?_⟩)
  (refine ⟨_, _, _, a_box (gd_none rfl) rfl rfl rfl rfl rfl, (by first | rfl | kernel_rfl), ?_⟩)
  (refine ⟨_, _, _, a_assign (gd_none rfl) rfl rfl rfl rfl rfl, (by first | rfl | kernel_rfl), ?_⟩)
  show AWp _ _ _ _ _ _ _
  refine awp_seq (awp_region ?_)
  (first | (refine ⟨_, _, _, a_field_bp (gd_none rfl) rfl rfl rfl rfl rfl rfl rfl rfl rfl, (by first | rfl | kernel_rfl), ?_⟩) | (refine ⟨_, _, _, a_field_ad (gd_none rfl) rfl rfl rfl rfl rfl rfl rfl rfl rfl rfl rfl, (by first | rfl | kernel_rfl), ?_⟩) | (refine ⟨_, _, _, a_fieldM (gd_none rfl) rfl rfl rfl rfl rfl rfl rfl rfl rfl, (by first | rfl | kernel_rfl), ?_⟩))
  (first | (refine ⟨_, _, _, a_load_all (gd_none rfl) rfl rfl rfl rfl rfl rfl rfl rfl rfl rfl rfl rfl, (by first | rfl | kernel_rfl), ?_⟩) | (refine ⟨_, _, _, a_load_tok (gd_none rfl) rfl rfl rfl rfl rfl rfl rfl rfl rfl rfl rfl rfl rfl, (by first | rfl | kernel_rfl), ?_⟩) | (refine ⟨_, _, _, a_load_bp (gd_none rfl) rfl rfl rfl rfl rfl rfl rfl rfl rfl rfl rfl rfl, (by first | rfl | kernel_rfl), ?_⟩) | (refine ⟨_, _, _, a_load_ad (gd_none rfl) rfl rfl rfl rfl rfl rfl rfl rfl rfl, (by first | rfl | kernel_rfl), ?_⟩) | (refine ⟨_, _, _, a_load_ptr (gd_none rfl) rfl rfl rfl rfl rfl rfl rfl rfl rfl, (by first | rfl | kernel_rfl), ?_⟩) | (refine ⟨_, _, _, a_load_fld (gd_none rfl) rfl rfl rfl rfl rfl rfl rfl rfl rfl rfl rfl rfl rfl, (by first | rfl | kernel_rfl), ?_⟩) | (refine ⟨_, _, _, a_load_fullv (gd_none rfl) rfl rfl rfl rfl rfl rfl rfl rfl rfl, (by first | rfl | kernel_rfl), ?_⟩))
  (first | (refine ⟨_, _, _, a_field_bp (gd_none rfl) rfl rfl rfl rfl rfl rfl rfl rfl rfl, (by first | rfl | kernel_rfl), ?_⟩) | (refine ⟨_, _, _, a_field_ad (gd_none rfl) rfl rfl rfl rfl rfl rfl rfl rfl rfl rfl rfl, (by first | rfl | kernel_rfl), ?_⟩) | (refine ⟨_, _, _, a_fieldM (gd_none rfl) rfl rfl rfl rfl rfl rfl rfl rfl rfl, (by first | rfl | kernel_rfl), ?_⟩))
  (first | (refine ⟨_, _, _, a_load_all (gd_none rfl) rfl rfl rfl rfl rfl rfl rfl rfl rfl rfl rfl rfl, (by first | rfl | kernel_rfl), ?_⟩) | (refine ⟨_, _, _, a_load_tok (gd_none rfl) rfl rfl rfl rfl rfl rfl rfl rfl rfl rfl rfl rfl rfl, (by first | rfl | kernel_rfl), ?_⟩) | (refine ⟨_, _, _, a_load_bp (gd_none rfl) rfl rfl rfl rfl rfl rfl rfl rfl rfl rfl rfl rfl, (by first | rfl | kernel_rfl), ?_⟩) | (refine ⟨_, _, _, a_load_ad (gd_none rfl) rfl rfl rfl rfl rfl rfl rfl rfl rfl, (by first | rfl | kernel_rfl), ?_⟩) | (refine ⟨_, _, _, a_load_ptr (gd_none rfl) rfl rfl rfl rfl rfl rfl rfl rfl rfl, (by first | rfl | kernel_rfl), ?_⟩) | (refine ⟨_, _, _, a_load_fld (gd_none rfl) rfl rfl rfl rfl rfl rfl rfl rfl rfl rfl rfl rfl rfl, (by first | rfl | kernel_rfl), ?_⟩) | (refine ⟨_, _, _, a_load_fullv (gd_none rfl) rfl rfl rfl rfl rfl rfl rfl rfl rfl, (by first | rfl | kernel_rfl), ?_⟩))
  (refine ⟨_, _, _, a_call (gd_none rfl) rfl rfl rfl rfl rfl (cmp_abs _ x.v y.v), (by first | rfl | kernel_rfl), ?_⟩)
  (refine ⟨_, _, _, a_assign (gd_none rfl) rfl rfl rfl rfl rfl, (by first | rfl | kernel_rfl), ?_⟩)
  show AWp _ _ _ _ _ _ _
  exact awp_ret ⟨.inr rfl, rfl⟩
-- 
theorem sameB_abs (W : World) (x y : Bd) : AFun Try.prog W 89 [x.cw, y.cw] (.val (.b (decide (x.v = y.v)))) := by
  refine afun_of (rs := [.b (decide (x.v = y.v))]) Try.func89 Try.ntmps89 rfl rfl rfl rfl ?_
  intro w U hW
  refine awp_seq (awp_region ?_)
  (refine ⟨_, _, _, a_box (gd_none rfl) rfl rfl rfl rfl rfl, (by first | rfl | kernel_rfl), ?_⟩)
  (refine ⟨_, _, _, a_box (gd_none rfl) rfl rfl rfl rfl rfl, (by first | rfl | kernel_rfl), ?_⟩)
  (refine ⟨_, _, _, a_assign (gd_none rfl) rfl rfl rfl rfl rfl, (by first | rfl | kernel_rfl), ?_⟩)
  show AWp _ _ _ _ _ _ _
  refine awp_seq (awp_region ?_)
  (first | (refine ⟨_, _, _, a_field_bp (gd_none rfl) rfl rfl rfl rfl rfl rfl rfl rfl rfl, (by first | rfl | kernel_rfl), ?_⟩) | (refine ⟨_, _, _, a_field_ad (gd_none rfl) rfl rfl rfl rfl rfl rfl rfl rfl rfl rfl rfl, (by first | rfl | kernel_rfl), ?_⟩) | (refine ⟨_, _, _, a_fieldM (gd_none rfl) rfl rfl rfl rfl rfl rfl rfl rfl rfl, (by first | rfl | kernel_rfl), ?_⟩))
  (first | (refine ⟨_, _, _, a_load_all (gd_none rfl) rfl rfl rfl rfl rfl rfl rfl rfl rfl rfl rfl rfl, (by first | rfl | kernel_rfl), ?_⟩) | (refine ⟨_, _, _, a_load_tok (gd_none rfl) rfl rfl rfl rfl rfl rfl rfl rfl rfl rfl rfl rfl rfl, (by first | rfl | kernel_rfl), ?_⟩) | (refine ⟨_, _, _, a_load_bp (gd_none rfl) rfl rfl rfl rfl rfl rfl rfl rfl rfl rfl rfl rfl, (by first | rfl | kernel_rfl), ?_⟩) | (refine ⟨_, _, _, a_load_ad (gd_none rfl) rfl rfl rfl rfl rfl rfl rfl rfl rfl, (by first | rfl | kernel_rfl), ?_⟩) | (refine ⟨_, _, _, a_load_ptr (gd_none rfl) rfl rfl rfl rfl rfl rfl rfl rfl rfl, (by first | rfl | kernel_rfl), ?_⟩) | (refine ⟨_, _, _, a_load_fld (gd_none rfl) rfl rfl rfl rfl rfl rfl rfl rfl rfl rfl rfl rfl rfl, (by first | rfl | kernel_rfl), ?_⟩) | (refine ⟨_, _, _, a_load_fullv (gd_none rfl) rfl rfl rfl rfl rfl rfl rfl rfl rfl, (by first | rfl | kernel_rfl), ?_⟩))
  (first | (refine ⟨_, _, _, a_field_bp (gd_none rfl) rfl rfl rfl rfl rfl rfl rfl rfl rfl, (by first | rfl | kernel_rfl), ?_⟩) | (refine ⟨_, _, _, a_field_ad (gd_none rfl) rfl rfl rfl rfl rfl rfl rfl rfl rfl rfl rfl, (by first | rfl | kernel_rfl), ?_⟩) | (refine ⟨_, _, _, a_fieldM (gd_none rfl) rfl rfl rfl rfl rfl rfl rfl rfl rfl, (by first | rfl | kernel_rfl), ?_⟩))
  (first | (refine ⟨_, _, _, a_load_all (gd_none rfl) rfl rfl rfl rfl rfl rfl rfl rfl rfl rfl rfl rfl, (by first | rfl | kernel_rfl), ?_⟩) | (refine ⟨_, _, _, a_load_tok (gd_none rfl) rfl rfl rfl rfl rfl rfl rfl rfl rfl rfl rfl rfl rfl, (by first | rfl | kernel_rfl), ?_⟩) | (refine ⟨_, _, _, a_load_bp (gd_none rfl) rfl rfl rfl rfl rfl rfl rfl rfl rfl rfl rfl rfl, (by first | rfl | kernel_rfl), ?_⟩) | (refine ⟨_, _, _, a_load_ad (gd_none rfl) rfl rfl rfl rfl rfl rfl rfl rfl rfl, (by first | rfl | kernel_rfl), ?_⟩) | (refine ⟨_, _, _, a_load_ptr (gd_none rfl) rfl rfl rfl rfl rfl rfl rfl rfl rfl, (by first | rfl | kernel_rfl), ?_⟩) | (refine ⟨_, _, _, a_load_fld (gd_none rfl) rfl rfl rfl rfl rfl rfl rfl rfl rfl rfl rfl rfl rfl, (by first | rfl | kernel_rfl), ?_⟩) | (refine ⟨_, _, _, a_load_fullv (gd_none rfl) rfl rfl rfl rfl rfl rfl rfl rfl rfl, (by first | rfl | kernel_rfl), ?_⟩))
  (first | (refine ⟨_, _, _, a_eql (gd_none rfl) rfl rfl rfl rfl rfl rfl, (by first | rfl | kernel_rfl), ?_⟩) | (refine ⟨_, _, _, a_beq (gd_none rfl) rfl rfl rfl rfl rfl rfl rfl, (by first | rfl | kernel_rfl), ?_⟩))
  (refine ⟨_, _, _, a_assign (gd_none rfl) rfl rfl rfl rfl rfl, (by first | rfl | kernel_rfl), ?_⟩)
  show AWp _ _ _ _ _ _ _
  exact awp_ret ⟨.inr rfl, rfl⟩
/-- A variable that is bound to itself. -/
def idleB (b : Bd) : Bool := decide (b.t.f < 0) && decide (-1 - b.t.f = b.v)
-- 
theorem idle_abs (W : World) (b : Bd) (h1 : -9223372036854775808 ≤ b.t.f) : AFun Try.prog W 75 [b.cw] (.val (.b (idleB b))) := by
  refine afun_of (rs := [.b (idleB b)]) Try.func75 Try.ntmps75 rfl rfl rfl rfl ?_
  intro w U hW
  refine awp_seq (awp_region ?_)
  (refine ⟨_, _, _, a_box (gd_none rfl) rfl rfl rfl rfl rfl, (by first | rfl | kernel_rfl), ?_⟩)
  (refine ⟨_, _, _, a_assign (gd_none rfl) rfl rfl rfl rfl rfl, (by first | rfl | kernel_rfl), ?_⟩)
  show AWp _ _ _ _ _ _ _
  unfold idleB
  by_cases hf : b.t.f < 0
  · have g : decide (b.t.f < 0) = true := by simpa using hf
    refine awp_seq (awp_draw (by kernel_rfl) (by kernel_rfl) ?_)
    (first | (refine ⟨_, _, _, a_field_bp (gd_none rfl) rfl rfl rfl rfl rfl rfl rfl rfl rfl, (by first | rfl | kernel_rfl), ?_⟩) | (refine ⟨_, _, _, a_field_ad (gd_none rfl) rfl rfl rfl rfl rfl rfl rfl rfl rfl rfl rfl, (by first | rfl | kernel_rfl), ?_⟩) | (refine ⟨_, _, _, a_fieldM (gd_none rfl) rfl rfl rfl rfl rfl rfl rfl rfl rfl, (by first | rfl | kernel_rfl), ?_⟩))
    (first | (refine ⟨_, _, _, a_load_all (gd_none rfl) rfl rfl rfl rfl rfl rfl rfl rfl rfl rfl rfl rfl, (by first | rfl | kernel_rfl), ?_⟩) | (refine ⟨_, _, _, a_load_tok (gd_none rfl) rfl rfl rfl rfl rfl rfl rfl rfl rfl rfl rfl rfl rfl, (by first | rfl | kernel_rfl), ?_⟩) | (refine ⟨_, _, _, a_load_bp (gd_none rfl) rfl rfl rfl rfl rfl rfl rfl rfl rfl rfl rfl rfl, (by first | rfl | kernel_rfl), ?_⟩) | (refine ⟨_, _, _, a_load_ad (gd_none rfl) rfl rfl rfl rfl rfl rfl rfl rfl rfl, (by first | rfl | kernel_rfl), ?_⟩) | (refine ⟨_, _, _, a_load_ptr (gd_none rfl) rfl rfl rfl rfl rfl rfl rfl rfl rfl, (by first | rfl | kernel_rfl), ?_⟩) | (refine ⟨_, _, _, a_load_fld (gd_none rfl) rfl rfl rfl rfl rfl rfl rfl rfl rfl rfl rfl rfl rfl, (by first | rfl | kernel_rfl), ?_⟩) | (refine ⟨_, _, _, a_load_fullv (gd_none rfl) rfl rfl rfl rfl rfl rfl rfl rfl rfl, (by first | rfl | kernel_rfl), ?_⟩))
    (refine ⟨_, _, _, a_call (gd_none rfl) rfl rfl rfl rfl rfl (sIsVar_abs _ b.t), (by first | rfl | kernel_rfl), ?_⟩)
    (refine ⟨_, _, _, a_move (gd_none rfl) rfl rfl rfl rfl rfl, (by first | rfl | kernel_rfl), ?_⟩)
    (first | (refine ⟨_, _, _, a_field_bp (gd_on rfl rfl rfl rfl (by first | rfl | assumption | (simp; done))) rfl rfl rfl rfl rfl rfl rfl rfl rfl, (by first | rfl | kernel_rfl), ?_⟩) | (refine ⟨_, _, _, a_field_ad (gd_on rfl rfl rfl rfl (by first | rfl | assumption | (simp; done))) rfl rfl rfl rfl rfl rfl rfl rfl rfl rfl rfl, (by first | rfl | kernel_rfl), ?_⟩) | (refine ⟨_, _, _, a_fieldM (gd_on rfl rfl rfl rfl (by first | rfl | assumption | (simp; done))) rfl rfl rfl rfl rfl rfl rfl rfl rfl, (by first | rfl | kernel_rfl), ?_⟩))
    (first | (refine ⟨_, _, _, a_load_all (gd_on rfl rfl rfl rfl (by first | rfl | assumption | (simp; done))) rfl rfl rfl rfl rfl rfl rfl rfl rfl rfl rfl rfl, (by first | rfl | kernel_rfl), ?_⟩) | (refine ⟨_, _, _, a_load_tok (gd_on rfl rfl rfl rfl (by first | rfl | assumption | (simp; done))) rfl rfl rfl rfl rfl rfl rfl rfl rfl rfl rfl rfl rfl, (by first | rfl | kernel_rfl), ?_⟩) | (refine ⟨_, _, _, a_load_bp (gd_on rfl rfl rfl rfl (by first | rfl | assumption | (simp; done))) rfl rfl rfl rfl rfl rfl rfl rfl rfl rfl rfl rfl, (by first | rfl | kernel_rfl), ?_⟩) | (refine ⟨_, _, _, a_load_ad (gd_on rfl rfl rfl rfl (by first | rfl | assumption | (simp; done))) rfl rfl rfl rfl rfl rfl rfl rfl rfl, (by first | rfl | kernel_rfl), ?_⟩) | (refine ⟨_, _, _, a_load_ptr (gd_on rfl rfl rfl rfl (by first | rfl | assumption | (simp; done))) rfl rfl rfl rfl rfl rfl rfl rfl rfl, (by first | rfl | kernel_rfl), ?_⟩) | (refine ⟨_, _, _, a_load_fld (gd_on rfl rfl rfl rfl (by first | rfl | assumption | (simp; done))) rfl rfl rfl rfl rfl rfl rfl rfl rfl rfl rfl rfl rfl, (by first | rfl | kernel_rfl), ?_⟩) | (refine ⟨_, _, _, a_load_fullv (gd_on rfl rfl rfl rfl (by first | rfl | assumption | (simp; done))) rfl rfl rfl rfl rfl rfl rfl rfl rfl, (by first | rfl | kernel_rfl), ?_⟩))
    (refine ⟨_, _, _, a_call (gd_on rfl rfl rfl rfl (by first | rfl | assumption | (simp; done))) rfl rfl rfl rfl rfl (sNumber_abs _ b.t h1 hf), (by first | rfl | kernel_rfl), ?_⟩)
    (first | (refine ⟨_, _, _, a_field_bp (gd_on rfl rfl rfl rfl (by first | rfl | assumption | (simp; done))) rfl rfl rfl rfl rfl rfl rfl rfl rfl, (by first | rfl | kernel_rfl), ?_⟩) | (refine ⟨_, _, _, a_field_ad (gd_on rfl rfl rfl rfl (by first | rfl | assumption | (simp; done))) rfl rfl rfl rfl rfl rfl rfl rfl rfl rfl rfl, (by first | rfl | kernel_rfl), ?_⟩) | (refine ⟨_, _, _, a_fieldM (gd_on rfl rfl rfl rfl (by first | rfl | assumption | (simp; done))) rfl rfl rfl rfl rfl rfl rfl rfl rfl, (by first | rfl | kernel_rfl), ?_⟩))
    (first | (refine ⟨_, _, _, a_load_all (gd_on rfl rfl rfl rfl (by first | rfl | assumption | (simp; done))) rfl rfl rfl rfl rfl rfl rfl rfl rfl rfl rfl rfl, (by first | rfl | kernel_rfl), ?_⟩) | (refine ⟨_, _, _, a_load_tok (gd_on rfl rfl rfl rfl (by first | rfl | assumption | (simp; done))) rfl rfl rfl rfl rfl rfl rfl rfl rfl rfl rfl rfl rfl, (by first | rfl | kernel_rfl), ?_⟩) | (refine ⟨_, _, _, a_load_bp (gd_on rfl rfl rfl rfl (by first | rfl | assumption | (simp; done))) rfl rfl rfl rfl rfl rfl rfl rfl rfl rfl rfl rfl, (by first | rfl | kernel_rfl), ?_⟩) | (refine ⟨_, _, _, a_load_ad (gd_on rfl rfl rfl rfl (by first | rfl | assumption | (simp; done))) rfl rfl rfl rfl rfl rfl rfl rfl rfl, (by first | rfl | kernel_rfl), ?_⟩) | (refine ⟨_, _, _, a_load_ptr (gd_on rfl rfl rfl rfl (by first | rfl | assumption | (simp; done))) rfl rfl rfl rfl rfl rfl rfl rfl rfl, (by first | rfl | kernel_rfl), ?_⟩) | (refine ⟨_, _, _, a_load_fld (gd_on rfl rfl rfl rfl (by first | rfl | assumption | (simp; done))) rfl rfl rfl rfl rfl rfl rfl rfl rfl rfl rfl rfl rfl, (by first | rfl | kernel_rfl), ?_⟩) | (refine ⟨_, _, _, a_load_fullv (gd_on rfl rfl rfl rfl (by first | rfl | assumption | (simp; done))) rfl rfl rfl rfl rfl rfl rfl rfl rfl, (by first | rfl | kernel_rfl), ?_⟩))
    (first | (refine ⟨_, _, _, a_eql (gd_on rfl rfl rfl rfl (by first | rfl | assumption | (simp; done))) rfl rfl rfl rfl rfl rfl, (by first | rfl | kernel_rfl), ?_⟩) | (refine ⟨_, _, _, a_beq (gd_on rfl rfl rfl rfl (by first | rfl | assumption | (simp; done))) rfl rfl rfl rfl rfl rfl rfl, (by first | rfl | kernel_rfl), ?_⟩))
    (first | (refine ⟨_, _, _, a_pick_t (gd_none rfl) rfl rfl rfl rfl rfl ?hb rfl, rfl, ?_⟩; case hb => (first | rfl | assumption | (simp; done))) | (refine ⟨_, _, _, a_pick_f (gd_none rfl) rfl rfl rfl rfl rfl ?hb rfl, rfl, ?_⟩; case hb => (first | rfl | assumption | (simp; done))))
    (refine ⟨_, _, _, a_assign (gd_none rfl) rfl rfl rfl rfl rfl, (by first | rfl | kernel_rfl), ?_⟩)
    refine ⟨by kernel_rfl, ?_⟩
    show AWp _ _ _ _ _ _ _
    refine awp_ret ⟨.inr rfl, ?_⟩
    rw [g]; rfl
  · have g : decide (b.t.f < 0) = false := by simpa using hf
    refine awp_seq (awp_draw (by kernel_rfl) (by kernel_rfl) ?_)
    (first | (refine ⟨_, _, _, a_field_bp (gd_none rfl) rfl rfl rfl rfl rfl rfl rfl rfl rfl, (by first | rfl | kernel_rfl), ?_⟩) | (refine ⟨_, _, _, a_field_ad (gd_none rfl) rfl rfl rfl rfl rfl rfl rfl rfl rfl rfl rfl, (by first | rfl | kernel_rfl), ?_⟩) | (refine ⟨_, _, _, a_fieldM (gd_none rfl) rfl rfl rfl rfl rfl rfl rfl rfl rfl, (by first | rfl | kernel_rfl), ?_⟩))
    (first | (refine ⟨_, _, _, a_load_all (gd_none rfl) rfl rfl rfl rfl rfl rfl rfl rfl rfl rfl rfl rfl, (by first | rfl | kernel_rfl), ?_⟩) | (refine ⟨_, _, _, a_load_tok (gd_none rfl) rfl rfl rfl rfl rfl rfl rfl rfl rfl rfl rfl rfl rfl, (by first | rfl | kernel_rfl), ?_⟩) | (refine ⟨_, _, _, a_load_bp (gd_none rfl) rfl rfl rfl rfl rfl rfl rfl rfl rfl rfl rfl rfl, (by first | rfl | kernel_rfl), ?_⟩) | (refine ⟨_, _, _, a_load_ad (gd_none rfl) rfl rfl rfl rfl rfl rfl rfl rfl rfl, (by first | rfl | kernel_rfl), ?_⟩) | (refine ⟨_, _, _, a_load_ptr (gd_none rfl) rfl rfl rfl rfl rfl rfl rfl rfl rfl, (by first | rfl | kernel_rfl), ?_⟩) | (refine ⟨_, _, _, a_load_fld (gd_none rfl) rfl rfl rfl rfl rfl rfl rfl rfl rfl rfl rfl rfl rfl, (by first | rfl | kernel_rfl), ?_⟩) | (refine ⟨_, _, _, a_load_fullv (gd_none rfl) rfl rfl rfl rfl rfl rfl rfl rfl rfl, (by first | rfl | kernel_rfl), ?_⟩))
    (refine ⟨_, _, _, a_call (gd_none rfl) rfl rfl rfl rfl rfl (sIsVar_abs _ b.t), (by first | rfl | kernel_rfl), ?_⟩)
    (refine ⟨_, _, _, a_move (gd_none rfl) rfl rfl rfl rfl rfl, (by first | rfl | kernel_rfl), ?_⟩)
    (refine ⟨_, _, _, a_off (go_off rfl rfl rfl rfl (by first | rfl | assumption | (simp; done) | (simp [*]; done))) rfl rfl rfl, rfl, ?_⟩)
    (refine ⟨_, _, _, a_off (go_off rfl rfl rfl rfl (by first | rfl | assumption | (simp; done) | (simp [*]; done))) rfl rfl rfl, rfl, ?_⟩)
    (refine ⟨_, _, _, a_off (go_off rfl rfl rfl rfl (by first | rfl | assumption | (simp; done) | (simp [*]; done))) rfl rfl rfl, rfl, ?_⟩)
    (refine ⟨_, _, _, a_off (go_off rfl rfl rfl rfl (by first | rfl | assumption | (simp; done) | (simp [*]; done))) rfl rfl rfl, rfl, ?_⟩)
    (refine ⟨_, _, _, a_off (go_off rfl rfl rfl rfl (by first | rfl | assumption | (simp; done) | (simp [*]; done))) rfl rfl rfl, rfl, ?_⟩)
    (refine ⟨_, _, _, a_off (go_off rfl rfl rfl rfl (by first | rfl | assumption | (simp; done) | (simp [*]; done))) rfl rfl rfl, rfl, ?_⟩)
    (first | (refine ⟨_, _, _, a_pick_t (gd_none rfl) rfl rfl rfl rfl rfl ?hb rfl, rfl, ?_⟩; case hb => (first | rfl | assumption | (simp; done))) | (refine ⟨_, _, _, a_pick_f (gd_none rfl) rfl rfl rfl rfl rfl ?hb rfl, rfl, ?_⟩; case hb => (first | rfl | assumption | (simp; done))))
    (refine ⟨_, _, _, a_assign (gd_none rfl) rfl rfl rfl rfl rfl, (by first | rfl | kernel_rfl), ?_⟩)
    refine ⟨by kernel_rfl, ?_⟩
    show AWp _ _ _ _ _ _ _
    refine awp_ret ⟨.inr rfl, ?_⟩
    rw [g]; rfl

-- 
theorem cloneB_abs (L : List Bd) (hn : L.length ≤ 1000000000) :
    AFunO Try.prog 85 [] [.val (.lst (L.map Bd.cv))] (.sl 250007 0 L.length 3) [(250007, .mrow 61 3 (L.map Bd.cv))] := by
  have hsz := Bd.size_all L
  refine afunO_of Try.func85 Try.ntmps85 rfl rfl rfl rfl rfl rfl ?_
  intro w U hU
  refine AWp.nil 0 rfl rfl (fun hl => ?_) ?_
  · have hL : L = [] := by simpa using hl
    subst hL
    refine awp_seq (awp_region ?_)
    (refine ⟨_, _, _, a_assign (gd_none rfl) rfl rfl rfl rfl rfl, (by first | rfl | kernel_rfl), ?_⟩)
    show AWp _ _ _ _ _ _ _
    refine awp_seq (awp_seq (awp_region ?_))
    (refine ⟨_, _, _, a_move (gd_none rfl) rfl rfl rfl rfl rfl, (by first | rfl | kernel_rfl), ?_⟩)
    (first | (refine ⟨_, _, _, a_isnil (gd_none rfl) rfl rfl rfl rfl rfl rfl, (by first | rfl | kernel_rfl), ?_⟩) | (refine ⟨_, _, _, a_notnil (gd_none rfl) rfl rfl rfl rfl rfl rfl, (by first | rfl | kernel_rfl), ?_⟩))
    show AWp _ _ _ _ _ _ _
    refine awp_cond rfl (fun _ => ?_) (fun h => by cases h)
    refine awp_seq (awp_region ?_)
    (refine ⟨_, _, _, a_assign (gd_none rfl) rfl rfl rfl rfl rfl, (by first | rfl | kernel_rfl), ?_⟩)
    show AWp _ _ _ _ _ _ _
    exact awp_ret ⟨.inr rfl, _, wk_nilM 2 250007 61 3 rfl rfl rfl rfl rfl, rfl, rfl, trivial⟩
  · refine awp_seq (awp_region ?_)
    (refine ⟨_, _, _, a_assign (gd_none rfl) rfl rfl rfl rfl rfl, (by first | rfl | kernel_rfl), ?_⟩)
    show AWp _ _ _ _ _ _ _
    refine awp_seq (awp_seq (awp_region ?_))
    (refine ⟨_, _, _, a_move (gd_none rfl) rfl rfl rfl rfl rfl, (by first | rfl | kernel_rfl), ?_⟩)
    (first | (refine ⟨_, _, _, a_isnil (gd_none rfl) rfl rfl rfl rfl rfl rfl, (by first | rfl | kernel_rfl), ?_⟩) | (refine ⟨_, _, _, a_notnil (gd_none rfl) rfl rfl rfl rfl rfl rfl, (by first | rfl | kernel_rfl), ?_⟩))
    show AWp _ _ _ _ _ _ _
    refine awp_cond rfl (fun h => by cases h) (fun _ => ?_)
    refine awp_skip ?_
    show AWp _ _ _ _ _ _ _
    refine AWp.wk ((wk_not 0 rfl rfl).trans (wk_sub (s' := [(0, .val (.lst (L.map Bd.cv)))]) ⟨rfl, trivial⟩)) ?_
    refine awp_seq (awp_region ?_)
    (refine ⟨_, _, _, a_bslice0 (gd_none rfl) rfl rfl rfl rfl rfl rfl rfl rfl, (by first | rfl | kernel_rfl), ?_⟩)
    (refine ⟨_, _, _, a_move (gd_none rfl) rfl rfl rfl rfl rfl, (by first | rfl | kernel_rfl), ?_⟩)
    (refine ⟨_, _, _, a_app0M 250007 (gd_none rfl) rfl rfl rfl rfl rfl rfl rfl rfl rfl rfl rfl rfl rfl rfl rfl (by first | assumption | exact szAll_spec rfl | exact Tm.size_all _ | exact Bd.size_all _ | exact ints_size _) (by first | omega | (simp only [List.length_map, List.length_append, List.length_cons, List.length_nil] <;> omega) | (simp <;> omega)), (by first | rfl | kernel_rfl), ?_⟩)
    (refine ⟨_, _, _, a_assign (gd_none rfl) rfl rfl rfl rfl rfl, (by first | rfl | kernel_rfl), ?_⟩)
    show AWp _ _ _ _ _ _ _
    refine awp_ret ⟨.inr rfl, _, Wk.refl _, ?_, rfl, trivial⟩
    show some (AV.sl _ _ _ _) = some (AV.sl _ _ _ _)
    rw [List.length_map]
    rfl

-- 
theorem stable_abs (cmp : Bd → Bd → Int) (fc : CV) (L : List Bd) (hn : L.length < 20) (hc : ∀ W x y, AFunW Try.prog W fc [x.cw, y.cw] (.val (.i (cmp x y)))) :
    AFunO Try.prog 105 [(400000, .mrow 61 3 (L.map Bd.cv))] [.sl 400000 0 L.length 3, .val (.i L.length), .val fc] (.tup []) [(400000, .mrow 61 3 ((isortN (ltC cmp) 0 (L.length - 1) 1 L).map Bd.cv))] := by
  refine afunO_of Try.func105 Try.ntmps105 rfl rfl rfl rfl rfl rfl ?_
  intro w U hU
  refine awp_seq (awp_region ?_)
  (refine ⟨_, _, _, a_assign (gd_none rfl) rfl rfl rfl rfl rfl, (by first | rfl | kernel_rfl), ?_⟩)
  show AWp _ _ _ _ _ _ _
  refine awp_seq (awp_region ?_)
  (refine ⟨_, _, _, a_move (gd_none rfl) rfl rfl rfl rfl rfl, (by first | rfl | kernel_rfl), ?_⟩)
  (refine ⟨_, _, _, a_assign (gd_none rfl) rfl rfl rfl rfl rfl, (by first | rfl | kernel_rfl), ?_⟩)
  (refine ⟨_, _, _, a_assign (gd_none rfl) rfl rfl rfl rfl rfl, (by first | rfl | kernel_rfl), ?_⟩)
  show AWp _ _ _ _ _ _ _
  let st : AS := [(0, .sl 400000 0 L.length 3), (1, .val (.i L.length)), (2, .val fc), (6, .val (.i 20)), (7, .val (.i 0)), (8, .val (.i 20)), (400000, .mrow 61 3 (L.map Bd.cv))]
  refine awp_seq (awp_block (awp_count 0 (fun k => st) (wk_sub ⟨rfl, rfl, rfl, rfl, rfl, rfl, rfl, trivial⟩) ?_))
  intro k hk
  refine awp_seq (awp_seq (awp_region ?_))
  (refine ⟨_, _, _, a_move (gd_none rfl) rfl rfl rfl rfl rfl, (by first | rfl | kernel_rfl), ?_⟩)
  (refine ⟨_, _, _, a_move (gd_none rfl) rfl rfl rfl rfl rfl, (by first | rfl | kernel_rfl), ?_⟩)
  (refine ⟨_, _, _, a_leq (gd_none rfl) rfl rfl rfl rfl rfl rfl, (by first | rfl | kernel_rfl), ?_⟩)
  show AWp _ _ _ _ _ _ _
  refine awp_cond rfl (fun h => ?_) (fun _ => ?_)
  · exfalso
    have h : decide ((20 : Int) ≤ (L.length : Int)) = true := h
    simp at h
    omega
  refine awp_exit ?_
  show AWp _ _ _ _ _ _ _
  refine AWp.wk (wk_sub (s' := st) ⟨rfl, rfl, rfl, rfl, rfl, rfl, rfl, trivial⟩) ?_
  have hins := insSort_abs cmp fc L 0 L.length (by omega) (Nat.le_refl _) (by omega) hc
  rw [Nat.zero_add] at hins
  refine awp_seq (awp_region ?_)
  (refine ⟨_, _, _, a_move (gd_none rfl) rfl rfl rfl rfl rfl, (by first | rfl | kernel_rfl), ?_⟩)
  (refine ⟨_, _, _, a_move (gd_none rfl) rfl rfl rfl rfl rfl, (by first | rfl | kernel_rfl), ?_⟩)
  (refine ⟨_, _, _, a_move (gd_none rfl) rfl rfl rfl rfl rfl, (by first | rfl | kernel_rfl), ?_⟩)
  (refine ⟨_, _, _, a_move (gd_none rfl) rfl rfl rfl rfl rfl, (by first | rfl | kernel_rfl), ?_⟩)
  (refine ⟨_, _, _, a_callO (gd_none rfl) rfl rfl rfl rfl rfl (hins) (by repeat (first | exact trivial | refine ⟨rfl, ?_⟩)) (by first | rfl | kernel_rfl) (by first | rfl | kernel_rfl) (by first | rfl | kernel_rfl) (by first | rfl | kernel_rfl) (hnb_of (by first | rfl | kernel_rfl)), (by first | rfl | kernel_rfl), ?_⟩)
  show AWp _ _ _ _ _ _ _
  refine awp_block (awp_count 0 (fun k => [(1, .val (.i L.length)), (6, .val (.i 20)), (400000, .mrow 61 3 ((isortN (ltC cmp) 0 (L.length - 1) 1 L).map Bd.cv))]) (wk_sub ⟨rfl, rfl, rfl, trivial⟩) ?_)
  intro k hk
  refine awp_seq (awp_seq (awp_region ?_))
  (refine ⟨_, _, _, a_move (gd_none rfl) rfl rfl rfl rfl rfl, (by first | rfl | kernel_rfl), ?_⟩)
  (refine ⟨_, _, _, a_move (gd_none rfl) rfl rfl rfl rfl rfl, (by first | rfl | kernel_rfl), ?_⟩)
  (refine ⟨_, _, _, a_lss (gd_none rfl) rfl rfl rfl rfl rfl rfl, (by first | rfl | kernel_rfl), ?_⟩)
  show AWp _ _ _ _ _ _ _
  refine awp_cond rfl (fun h => ?_) (fun _ => ?_)
  · exfalso
    have h : decide ((20 : Int) < (L.length : Int)) = true := h
    simp at h
    omega
  refine awp_exit ?_
  exact ⟨.inl rfl, _, Wk.refl _, rfl, rfl, trivial⟩
-- 
theorem sortStable_abs (cmp : Bd → Bd → Int) (fc : CV) (L : List Bd) (hn : L.length < 20) (hc : ∀ W x y, AFunW Try.prog W fc [x.cw, y.cw] (.val (.i (cmp x y)))) :
    AFunO Try.prog 86 [(400000, .mrow 61 3 (L.map Bd.cv))] [.sl 400000 0 L.length 3, .val fc] (.tup []) [(400000, .mrow 61 3 ((isortN (ltC cmp) 0 (L.length - 1) 1 L).map Bd.cv))] := by
  refine afunO_of Try.func86 Try.ntmps86 rfl rfl rfl rfl rfl rfl ?_
  intro w U hU
  have hst := stable_abs cmp fc L hn hc
  refine awp_region ?_
  (refine ⟨_, _, _, a_move (gd_none rfl) rfl rfl rfl rfl rfl, (by first | rfl | kernel_rfl), ?_⟩)
  (refine ⟨_, _, _, a_move (gd_none rfl) rfl rfl rfl rfl rfl, (by first | rfl | kernel_rfl), ?_⟩)
  (first | (refine ⟨_, _, _, a_len (gd_none rfl) rfl rfl rfl rfl rfl rfl rfl, (by first | rfl | kernel_rfl), ?_⟩) | (refine ⟨_, _, _, a_lenM (gd_none rfl) rfl rfl rfl rfl rfl rfl rfl, (by first | rfl | kernel_rfl), ?_⟩))
  (refine ⟨_, _, _, a_move (gd_none rfl) rfl rfl rfl rfl rfl, (by first | rfl | kernel_rfl), ?_⟩)
  (refine ⟨_, _, _, a_callO (gd_none rfl) rfl rfl rfl rfl rfl (hst) (by repeat (first | exact trivial | refine ⟨rfl, ?_⟩)) (by first | rfl | kernel_rfl) (by first | rfl | kernel_rfl) (by first | rfl | kernel_rfl) (by first | rfl | kernel_rfl) (hnb_of (by first | rfl | kernel_rfl)), (by first | rfl | kernel_rfl), ?_⟩)
  exact ⟨.inl rfl, _, Wk.refl _, rfl, rfl, trivial⟩

/-- The first one of which it is true. -/
def idxB (q : Bd → Bool) : List Bd → Nat → Int
  | [], _ => -1
  | b :: l, i => if q b then (i : Int) else idxB q l (i + 1)
theorem idxB_none {q : Bd → Bool} : ∀ {l : List Bd} {i : Nat}, (∀ b ∈ l, q b = false) → idxB q l i = -1
  | [], _, _ => rfl
  | b :: l, i, h => by rw [idxB, h b (by simp), if_neg (by simp)]; exact idxB_none fun c hc => h c (List.mem_cons_of_mem _ hc)
theorem idxB_at {q : Bd → Bool} : ∀ {l : List Bd} {i k : Nat} {b : Bd}, l[k]? = some b → q b = true → (∀ j c, j < k → l[j]? = some c → q c = false) → idxB q l i = ((i + k : Nat) : Int)
  | [], _, _, _, h, _, _ => by simp at h
  | x :: l, i, 0, b, h, hq, _ => by simp at h; subst h; rw [idxB, if_pos hq]; rfl
  | x :: l, i, k + 1, b, h, hq, hf => by
    rw [idxB, hf 0 x (by omega) rfl, if_neg (by simp), idxB_at (k := k) (by simpa using h) hq fun j c hj hc => hf (j + 1) c (by omega) (by simpa using hc)]
    congr 1; omega
-- 
theorem indexF_abs (q : Bd → Bool) (fc : CV) (L : List Bd) (n : Nat) (hnl : n ≤ L.length) (hn : L.length ≤ 1000000000) (hc : ∀ W x, x ∈ L.take n → AFunW Try.prog W fc [x.cw] (.val (.b (q x)))) :
    AFunO Try.prog 102 [(400000, .mrow 61 3 (L.map Bd.cv))] [.sl 400000 0 n 3, .val fc] (.val (.i (idxB q (L.take n) 0))) [(400000, .mrow 61 3 (L.map Bd.cv))] := by
  refine afunO_of Try.func102 Try.ntmps102 rfl rfl rfl rfl rfl rfl ?_
  intro w U hU
  refine awp_seq (awp_region ?_)
  (refine ⟨_, _, _, a_assign (gd_none rfl) rfl rfl rfl rfl rfl, (by first | rfl | kernel_rfl), ?_⟩)
  show AWp _ _ _ _ _ _ _
  refine awp_seq (awp_seq (awp_region ?_))
  (refine ⟨_, _, _, a_move (gd_none rfl) rfl rfl rfl rfl rfl, (by first | rfl | kernel_rfl), ?_⟩)
  (first | (refine ⟨_, _, _, a_len (gd_none rfl) rfl rfl rfl rfl rfl rfl rfl, (by first | rfl | kernel_rfl), ?_⟩) | (refine ⟨_, _, _, a_lenM (gd_none rfl) rfl rfl rfl rfl rfl rfl rfl, (by first | rfl | kernel_rfl), ?_⟩))
  (refine ⟨_, _, _, a_move (gd_none rfl) rfl rfl rfl rfl rfl, (by first | rfl | kernel_rfl), ?_⟩)
  show AWp _ _ _ _ _ _ _
  refine awp_block (awp_countI n (fun k => ∀ j c, j < k → (L.take n)[j]? = some c → q c = false) (fun k => [(0, .sl 400000 0 n 3), (1, .val fc), (7, .val (.i n)), (8, .val (.i k)), (400000, .mrow 61 3 (L.map Bd.cv))]) (wk_sub ⟨rfl, rfl, rfl, rfl, rfl, trivial⟩) (fun j c hj => by omega) ?_)
  intro k hk hI
  refine awp_seq (awp_region ?_)
  (refine ⟨_, _, _, a_lss (gd_none rfl) rfl rfl rfl rfl rfl rfl, (by first | rfl | kernel_rfl), ?_⟩)
  show AWp _ _ _ _ _ _ _
  refine awp_seq (awp_cond rfl (fun hlt => ?_) (fun hlt => ?_))
  · have hkl : k < n := by simpa using hlt
    obtain ⟨x, hx0⟩ : ∃ x, L[k]? = some x := ⟨L[k]'(by omega), List.getElem?_eq_getElem (by omega)⟩
    have hx : (L.take n)[k]? = some x := by rw [List.getElem?_take, if_pos hkl]; exact hx0
    have hx' := Bd.map_at hx0
    refine awp_skip ?_
    show AWp _ _ _ _ _ _ _
    refine awp_seq (awp_block (awp_seq (awp_region ?_)))
    (refine ⟨_, _, _, a_move (gd_none rfl) rfl rfl rfl rfl rfl, (by first | rfl | kernel_rfl), ?_⟩)
    (refine ⟨_, _, _, a_assign (gd_none rfl) rfl rfl rfl rfl rfl, (by first | rfl | kernel_rfl), ?_⟩)
    show AWp _ _ _ _ _ _ _
    refine awp_seq (awp_region ?_)
    (refine ⟨_, _, _, a_move (gd_none rfl) rfl rfl rfl rfl rfl, (by first | rfl | kernel_rfl), ?_⟩)
    (refine ⟨_, _, _, a_move (gd_none rfl) rfl rfl rfl rfl rfl, (by first | rfl | kernel_rfl), ?_⟩)
    (refine ⟨_, _, _, a_move (gd_none rfl) rfl rfl rfl rfl rfl, (by first | rfl | kernel_rfl), ?_⟩)
    (refine ⟨_, _, _, a_indexM (k := k) (gd_none rfl) rfl rfl rfl rfl rfl rfl rfl rfl rfl (by first | rfl | omega | (simp only [List.length_set, List.length_map, List.length_append, List.length_cons, List.length_nil] <;> omega) | (simp <;> omega)), (by first | rfl | kernel_rfl), ?_⟩)
    (refine ⟨_, _, _, a_loadM (gd_none rfl) rfl rfl rfl rfl rfl rfl rfl rfl (hx') rfl (by first | rfl | omega | (simp only [List.length_set, List.length_map, List.length_append, List.length_cons, List.length_nil] <;> omega) | (simp <;> omega)) rfl rfl, (by first | rfl | kernel_rfl), ?_⟩)
    (refine ⟨_, _, _, a_callw (gd_none rfl) rfl rfl rfl rfl rfl rfl (hc _ x (List.mem_of_getElem? hx)), (by first | rfl | kernel_rfl), ?_⟩)
    show AWp _ _ _ _ _ _ _
    refine awp_cond rfl (fun hq => ?_) (fun hq => ?_)
    · refine awp_seq (awp_region ?_)
      (refine ⟨_, _, _, a_move (gd_none rfl) rfl rfl rfl rfl rfl, (by first | rfl | kernel_rfl), ?_⟩)
      (refine ⟨_, _, _, a_assign (gd_none rfl) rfl rfl rfl rfl rfl, (by first | rfl | kernel_rfl), ?_⟩)
      show AWp _ _ _ _ _ _ _
      refine awp_ret ⟨.inr rfl, _, Wk.refl _, ?_, rfl, trivial⟩
      rw [idxB_at hx hq hI, Nat.zero_add]
      rfl
    · refine awp_skip ?_
      show AWp _ _ _ _ _ _ _
      refine awp_region ?_
      (refine ⟨_, _, _, a_add (gd_none rfl) rfl rfl rfl rfl rfl rfl (by first | omega | (simp only [List.length_map, List.length_append, List.length_cons, List.length_nil] <;> omega) | (simp <;> omega)), (by first | rfl | kernel_rfl), ?_⟩)
      (refine ⟨_, _, _, a_move (gd_none rfl) rfl rfl rfl rfl rfl, (by first | rfl | kernel_rfl), ?_⟩)
      refine ⟨hkl, fun j c hj hc => ?_, wk_sub ⟨rfl, rfl, rfl, rfl, rfl, trivial⟩⟩
      rcases Nat.lt_or_ge j k with h | h
      · exact hI j c h hc
      · have : j = k := by omega
        subst this
        rw [hx] at hc
        cases hc
        exact hq
  · have hkl : ¬ k < n := by simpa using hlt
    refine awp_exit ?_
    show AWp _ _ _ _ _ _ _
    refine awp_seq (awp_region ?_)
    (refine ⟨_, _, _, a_assign (gd_none rfl) rfl rfl rfl rfl rfl, (by first | rfl | kernel_rfl), ?_⟩)
    show AWp _ _ _ _ _ _ _
    refine awp_ret ⟨.inr rfl, _, Wk.refl _, ?_, rfl, trivial⟩
    rw [idxB_none fun b hb => ?_]
    · rfl
    · obtain ⟨j, hj⟩ := List.getElem?_of_mem hb
      have hjl : j < n := by
        rw [List.getElem?_take] at hj
        split at hj
        · assumption
        · cases hj
      exact hI j b (by omega) hj
end Go.Proofs.Ytgmllfjidhbjjaa
