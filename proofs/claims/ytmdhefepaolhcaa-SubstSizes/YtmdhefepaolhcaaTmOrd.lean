/-
  The order of terms is one: cmpT turns, is 0 just at the same terms, goes on over two.
-/
import Derived.Test.YtmdhefepaolhcaaTmCmp
namespace Go.Proofs.Ytmdhefepaolhcaa
set_option linter.unusedVariables false
set_option linter.unusedSimpArgs false

theorem cmpZ_cases (x y : Int) : (cmpZ x y = -1 ∧ x < y) ∨ (cmpZ x y = 0 ∧ x = y) ∨ (cmpZ x y = 1 ∧ y < x) := by
  unfold cmpZ
  split
  · exact .inl ⟨rfl, by assumption⟩
  · split
    · exact .inr (.inr ⟨rfl, by assumption⟩)
    · exact .inr (.inl ⟨rfl, by omega⟩)

/-- A head's place among heads. -/
def rank (x : Int) : Int × Int := if x < 0 then (0, -1 - x) else (1, x)
theorem cmpH_cases (x y : Int) : (cmpH x y = -1 ∧ ((x < 0 ∧ y < 0 ∧ y < x) ∨ (¬ (x < 0 ∧ y < 0) ∧ x < y))) ∨ (cmpH x y = 0 ∧ x = y) ∨ (cmpH x y = 1 ∧ ((x < 0 ∧ y < 0 ∧ x < y) ∨ (¬ (x < 0 ∧ y < 0) ∧ y < x))) := by
  unfold cmpH
  split
  · have := cmpZ_cases (-1 - x) (-1 - y)
    omega
  · have := cmpZ_cases x y
    omega

/-- A comparison that is an order on these. -/
structure CmpOk (c : Int) : Prop where
  three : c = -1 ∨ c = 0 ∨ c = 1

theorem cmpT_three (a : Tm) : ∀ b, cmpT a b = -1 ∨ cmpT a b = 0 ∨ cmpT a b = 1 := by
  induction a using Tm.indp with
  | h a ih =>
    intro b
    rw [cmpT_eq]
    split
    · have := cmpH_cases a.f b.f; omega
    · split
      · have := cmpZ_cases a.ps.length b.ps.length; omega
      · have : ∀ (l m : List Tm), (∀ s ∈ l, ∀ b, cmpT s b = -1 ∨ cmpT s b = 0 ∨ cmpT s b = 1) → cmpL l m = -1 ∨ cmpL l m = 0 ∨ cmpL l m = 1 := by
          intro l
          induction l with
          | nil => intro m _; cases m <;> simp [cmpL_nil, cmpL_lt, cmpL_gt]
          | cons y ys ih2 =>
            intro m hl
            cases m with
            | nil => simp [cmpL_nil, cmpL_lt, cmpL_gt]
            | cons z zs =>
              rw [cmpL_cons]
              split
              · exact hl y (by simp) z
              · exact ih2 zs (fun s hs => hl s (List.mem_cons_of_mem _ hs))
        exact this _ _ ih

theorem cmpT_zero (a : Tm) : ∀ b, cmpT a b = 0 ↔ a.strip = b.strip := by
  induction a using Tm.indp with
  | h a ih =>
    intro b
    rw [cmpT_eq, Tm.strip_eq a, Tm.strip_eq b]
    have hL : ∀ (l m : List Tm), (∀ s ∈ l, ∀ b, cmpT s b = 0 ↔ s.strip = b.strip) → (cmpL l m = 0 ↔ l.map Tm.strip = m.map Tm.strip) := by
      intro l
      induction l with
      | nil => intro m _; cases m <;> simp [cmpL_nil, cmpL_lt, cmpL_gt]
      | cons y ys ih2 =>
        intro m hl
        cases m with
        | nil => simp [cmpL_nil, cmpL_lt, cmpL_gt]
        | cons z zs =>
          rw [cmpL_cons, List.map_cons, List.map_cons, List.cons.injEq, ← hl y (by simp) z, ← ih2 zs (fun s hs => hl s (List.mem_cons_of_mem _ hs))]
          by_cases h : cmpT y z = 0 <;> simp [h]
    rw [Tm.mk.injEq]
    by_cases h1 : a.f = b.f
    · rw [if_neg (by simp [h1])]
      by_cases h2 : a.ps.length = b.ps.length
      · rw [if_neg (by simp [h2]), hL _ _ ih]
        simp [h1]
      · rw [if_pos h2]
        constructor
        · intro h3
          have := cmpZ_cases a.ps.length b.ps.length
          omega
        · rintro ⟨_, h3⟩
          exact absurd (by simpa using congrArg List.length h3) h2
    · rw [if_pos h1]
      constructor
      · intro h3
        have := cmpH_cases a.f b.f
        omega
      · rintro ⟨h3, _⟩
        exact absurd h3 h1

theorem cmpT_self (a : Tm) : cmpT a a = 0 := (cmpT_zero a a).2 rfl
theorem cmpT_strip (a : Tm) : cmpT a.strip a = 0 := (cmpT_zero _ _).2 (Tm.strip_strip a)

theorem cmpT_turn (a : Tm) : ∀ b, cmpT b a = - cmpT a b := by
  induction a using Tm.indp with
  | h a ih =>
    intro b
    rw [cmpT_eq b a, cmpT_eq a b]
    have hL : ∀ (l m : List Tm), (∀ s ∈ l, ∀ b, cmpT b s = - cmpT s b) → cmpL m l = - cmpL l m := by
      intro l
      induction l with
      | nil => intro m _; cases m <;> simp [cmpL_nil, cmpL_lt, cmpL_gt]
      | cons y ys ih2 =>
        intro m hl
        cases m with
        | nil => simp [cmpL_nil, cmpL_lt, cmpL_gt]
        | cons z zs =>
          rw [cmpL_cons, cmpL_cons, hl y (by simp) z, ih2 zs (fun s hs => hl s (List.mem_cons_of_mem _ hs))]
          by_cases h : cmpT y z = 0 <;> simp [h]
    by_cases h1 : a.f = b.f
    · by_cases h2 : a.ps.length = b.ps.length
      · simp only [h1, h2, ne_eq, not_true_eq_false, if_false]
        exact hL _ _ ih
      · have h2' : ¬ b.ps.length = a.ps.length := fun e => h2 e.symm
        simp only [h1, h2, h2', ne_eq, not_true_eq_false, not_false_eq_true, if_false, if_true]
        have := cmpZ_cases a.ps.length b.ps.length
        have := cmpZ_cases b.ps.length a.ps.length
        omega
    · have h1' : ¬ b.f = a.f := fun e => h1 e.symm
      simp only [h1, h1', ne_eq, not_false_eq_true, if_true]
      have := cmpH_cases a.f b.f
      have := cmpH_cases b.f a.f
      omega

theorem cmpT_stripL (a : Tm) : ∀ b, cmpT a.strip b = cmpT a b := by
  induction a using Tm.indp with
  | h a ih =>
    intro b
    rw [cmpT_eq a.strip b, cmpT_eq a b, Tm.strip_f, Tm.strip_ps, List.length_map]
    have hL : ∀ (l m : List Tm), (∀ s ∈ l, ∀ b, cmpT s.strip b = cmpT s b) → cmpL (l.map Tm.strip) m = cmpL l m := by
      intro l
      induction l with
      | nil => intro m _; rfl
      | cons y ys ih2 =>
        intro m hl
        cases m with
        | nil => simp [cmpL_nil, cmpL_lt, cmpL_gt]
        | cons z zs => rw [List.map_cons, cmpL_cons, cmpL_cons, hl y (by simp) z, ih2 zs (fun s hs => hl s (List.mem_cons_of_mem _ hs))]
    rw [hL _ _ ih]
theorem cmpT_congr {a a' : Tm} (h : a.strip = a'.strip) (b : Tm) : cmpT a b = cmpT a' b := by rw [← cmpT_stripL a, ← cmpT_stripL a', h]

theorem cmpL_three (l m : List Tm) : cmpL l m = -1 ∨ cmpL l m = 0 ∨ cmpL l m = 1 := by
  induction l generalizing m with
  | nil => cases m <;> simp [cmpL_nil, cmpL_lt, cmpL_gt]
  | cons y ys ih2 =>
    cases m with
    | nil => simp [cmpL_nil, cmpL_lt, cmpL_gt]
    | cons z zs =>
      rw [cmpL_cons]
      split
      · exact cmpT_three y z
      · exact ih2 zs

/-- Over two it goes on; strict if one of both is. -/
def Goon (p q r : Int) : Prop := p ≤ 0 → q ≤ 0 → r ≤ 0 ∧ (r = 0 → p = 0 ∧ q = 0)

theorem goon_step {p1 q1 r1 p2 q2 r2 : Int} (g1 : Goon p1 q1 r1) (g2 : Goon p2 q2 r2) (g3 : p1 = 0 → r1 = q1) : Goon (if p1 ≠ 0 then p1 else p2) (if q1 ≠ 0 then q1 else q2) (if r1 ≠ 0 then r1 else r2) := by
  unfold Goon at *
  intro hp hq
  split at hp <;> split at hq <;> split <;> first | omega | (simp_all; done) | (simp_all; omega)
theorem cmpT_f {a b : Tm} (h : a.f ≠ b.f) : cmpT a b = cmpH a.f b.f := by rw [cmpT_eq, if_pos h]
theorem cmpT_n {a b : Tm} (h : a.f = b.f) (h2 : a.ps.length ≠ b.ps.length) : cmpT a b = cmpZ a.ps.length b.ps.length := by rw [cmpT_eq, if_neg (by simp [h]), if_pos h2]
theorem cmpT_l {a b : Tm} (h : a.f = b.f) (h2 : a.ps.length = b.ps.length) : cmpT a b = cmpL a.ps b.ps := by rw [cmpT_eq, if_neg (by simp [h]), if_neg (by simp [h2])]

theorem cmpT_trans (a : Tm) : ∀ b c, Goon (cmpT a b) (cmpT b c) (cmpT a c) := by
  induction a using Tm.indp with
  | h a ih =>
    intro b c hp hq
    have hL : ∀ (l m n : List Tm), l.length = m.length → m.length = n.length → (∀ s ∈ l, ∀ b c, Goon (cmpT s b) (cmpT b c) (cmpT s c)) → Goon (cmpL l m) (cmpL m n) (cmpL l n) := by
      intro l
      induction l with
      | nil =>
        intro m n h1 h2 _
        have : m = [] := List.eq_nil_of_length_eq_zero (by simpa using h1.symm)
        subst this
        have : n = [] := List.eq_nil_of_length_eq_zero (by simpa using h2.symm)
        subst this
        simp [cmpL_nil, Goon]
      | cons y ys ih2 =>
        intro m n h1 h2 hl
        cases m with
        | nil => simp at h1
        | cons z zs =>
          cases n with
          | nil => simp at h2
          | cons u us =>
            have g1 := hl y (by simp) z u
            have g2 := ih2 zs us (by simpa using h1) (by simpa using h2) (fun s hs => hl s (List.mem_cons_of_mem _ hs))
            have g3 : cmpT y z = 0 → cmpT y u = cmpT z u := fun e => cmpT_congr ((cmpT_zero _ _).1 e) u
            rw [cmpL_cons, cmpL_cons, cmpL_cons]
            exact goon_step g1 g2 g3
    have hab := cmpH_cases a.f b.f
    have hbc := cmpH_cases b.f c.f
    have hac := cmpH_cases a.f c.f
    have zab := cmpZ_cases a.ps.length b.ps.length
    have zbc := cmpZ_cases b.ps.length c.ps.length
    have zac := cmpZ_cases a.ps.length c.ps.length
    by_cases f1 : a.f = b.f <;> by_cases f2 : b.f = c.f
    · have f3 : a.f = c.f := f1.trans f2
      by_cases l1 : a.ps.length = b.ps.length <;> by_cases l2 : b.ps.length = c.ps.length
      · rw [cmpT_l f1 l1] at hp ⊢
        rw [cmpT_l f2 l2] at hq ⊢
        rw [cmpT_l f3 (l1.trans l2)]
        exact hL _ _ _ l1 l2 ih hp hq
      · rw [cmpT_l f1 l1] at hp ⊢
        rw [cmpT_n f2 l2] at hq ⊢
        rw [cmpT_n f3 (by omega)]
        clear hL ih
        omega
      · rw [cmpT_n f1 l1] at hp ⊢
        rw [cmpT_l f2 l2] at hq ⊢
        rw [cmpT_n f3 (by omega)]
        clear hL ih
        omega
      · rw [cmpT_n f1 l1] at hp ⊢
        rw [cmpT_n f2 l2] at hq ⊢
        by_cases l3 : a.ps.length = c.ps.length
        · omega
        · rw [cmpT_n f3 l3]
          clear hL ih
          omega
    · have f3 : a.f ≠ c.f := by omega
      rw [cmpT_f f2] at hq ⊢
      rw [cmpT_f f3]
      clear hL ih
      omega
    · have f3 : a.f ≠ c.f := by omega
      rw [cmpT_f f1] at hp ⊢
      rw [cmpT_f f3]
      clear hL ih
      omega
    · rw [cmpT_f f1] at hp ⊢
      rw [cmpT_f f2] at hq ⊢
      by_cases f3 : a.f = c.f
      · omega
      · rw [cmpT_f f3]
        clear hL ih
        omega

theorem sameT_iff (a b : Tm) : sameT a b = true ↔ a.strip = b.strip := by
  unfold sameT
  rw [beq_iff_eq]
  exact cmpT_zero a b
theorem strip_sym {f : Int} (l : List Tm) (h : 0 ≤ f) : (Tm.mk f l).strip = .mk f (l.map Tm.strip) := by rw [Tm.strip_eq, Tm.ps_of_sym (t := .mk f l) h]
theorem same_pq {f : Int} (x y : Tm) (h : 0 ≤ f) : sameT (.mk f [x, y]) (.mk f [y, x]) = sameT x y := by
  rw [Bool.eq_iff_iff, sameT_iff, sameT_iff, strip_sym _ h, strip_sym _ h]
  simp only [List.map_cons, List.map_nil, Tm.mk.injEq, List.cons.injEq, true_and, and_true]
  exact ⟨fun e => e.1, fun e => ⟨e, e.symm⟩⟩
theorem same_cp {f : Int} (x y : Tm) (h : 0 ≤ f) : sameT (.mk f [⟨999, []⟩, y.strip]) (.mk f [x, y]) = sameT x ⟨999, []⟩ := by
  rw [Bool.eq_iff_iff, sameT_iff, sameT_iff, strip_sym _ h, strip_sym _ h]
  simp only [List.map_cons, List.map_nil, Tm.mk.injEq, List.cons.injEq, true_and, and_true, Tm.strip_strip]
  exact ⟨fun e => e.symm, fun e => e.symm⟩
theorem same_var {f : Int} (l m : List Tm) (h : f < 0) : sameT (.mk f l) (.mk f m) = true := by
  rw [sameT_iff, Tm.strip_eq, Tm.strip_eq, Tm.ps_of_var (t := .mk f l) h, Tm.ps_of_var (t := .mk f m) h]
theorem same_len {f : Int} (l m : List Tm) (h : 0 ≤ f) (hl : l.length ≠ m.length) : sameT (.mk f l) (.mk f m) = false := by
  rw [Bool.eq_false_iff, ne_eq, sameT_iff, strip_sym _ h, strip_sym _ h]
  intro e
  exact hl (by simpa using congrArg (fun t => t.l.length) e)
end Go.Proofs.Ytmdhefepaolhcaa
