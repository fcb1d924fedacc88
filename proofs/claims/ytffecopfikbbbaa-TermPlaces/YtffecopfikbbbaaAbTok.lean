/-
  Rows that may grow: nil gets a name, a name is another.
-/
import Derived.Test.YtffecopfikbbbaaAbCode
namespace Go.Proofs.Ytffecopfikbbbaa
open Go.RowKit
set_option linter.unusedVariables false
set_option linter.unusedSimpArgs false

section
variable {P : Program} {w0 : World} {U0 : Nat → Nat → Prop} {nt : Nat} {s : AS}

theorem beq_ne {a b : Nat} (h : a ≠ b) : Nat.beq a b = false := by
  cases e : Nat.beq a b with
  | false => rfl
  | true => exact absurd (Nat.eq_of_beq_eq_true e) h
/-- What is nil may grow under a name. -/
theorem wk_nil (kk n e z : Nat) {av : AV} (hk : look s kk = some av) (h1 : av.n = 1) (ht2 : Nat.beq av.t 2 = false) (hkk : Nat.blt kk 200000 = true) (hn : Nat.ble 200000 n = true) (hz : Nat.blt 0 z = true) (hr : noRefB s [n] = true) : Wk w0 U0 nt s ((n, .tok e z) :: (kk, { av with n := n }) :: s) := by
  rintro a w ⟨D, bx, tv, h⟩
  have hn := Nat.le_of_ble_eq_true hn
  have hkk := blt_lt hkk
  have hz := blt_lt hz
  have hr := noRefB_spec hr n (by simp)
  obtain ⟨s', hs'⟩ : ∃ s', s' = (n, AV.tok e z) :: (kk, { av with n := n }) :: s := ⟨_, rfl⟩
  rw [← hs']
  have hlk : ∀ k, k ≠ n → k ≠ kk → look s' k = look s k := fun k h1 h2 => by rw [hs', look_ne (Ne.symm h1), look_ne (Ne.symm h2)]
  have hlkk : look s' kk = some { av with n := n } := by rw [hs', look_ne (by omega), look_same]
  have hlk2 : ∀ k av', look s' k = some av' → k < 200000 → ∃ av0, look s k = some av0 ∧ av'.c = av0.c ∧ (av' = av0 ∨ (k = kk ∧ av' = { av with n := n } ∧ av0 = av)) := fun k av' h2 h3 => by
    by_cases e : k = kk
    · subst e
      rw [hlkk] at h2
      cases h2
      exact ⟨av, hk, rfl, .inr ⟨rfl, rfl, rfl⟩⟩
    · rw [hlk k (by omega) e] at h2
      exact ⟨av', h2, rfl, .inl rfl⟩
  have hl : ∀ m f, Live s' m f → m ≠ n → Live s m f := fun m f ⟨h2, h3⟩ hne => by
    by_cases e : m = kk
    · omega
    · rw [hlk m hne e] at h2; exact ⟨h2, h3⟩
  obtain ⟨tv', htv⟩ : ∃ tv' : Nat → Value, tv' = fun x => if x = n then .slice none 0 0 else tv x := ⟨_, rfl⟩
  have htk : ∀ k av0 av', look s k = some av0 → (av' = av0 ∨ (k = kk ∧ av' = { av with n := n } ∧ av0 = av)) → ∀ us, Tk tv (LiveN s) av0 us → Tk tv' (LiveN s') av' us := fun k av0 av' h2 h3 us ht hlv => by
    rcases h3 with rfl | ⟨rfl, rfl, rfl⟩
    · have hne := hr k av' h2
      obtain ⟨m, c, g1, g2⟩ := ht (hlv.imp id fun ⟨f, hf⟩ => ⟨f, hl _ _ hf hne⟩)
      refine ⟨m, c, g1, ?_⟩
      rw [g2]
      unfold tokv
      simp only [htv, hne, if_false]
    · obtain ⟨m, c, g1, g2⟩ := ht (.inl h1)
      refine ⟨m, c, g1, ?_⟩
      rw [g2]
      unfold tokv
      simp only [htv, h1, if_true]
      rw [if_neg (by omega)]
  refine ⟨D, bx, tv', h.below, h.dfr, h.size, fun d av' h2 h3 => ?_, fun m av' h2 h3 => ?_, fun m k av' aw h2 h3 h4 h5 => ?_, fun m f h2 => ?_, fun m k f f' h2 h3 hne g hg => ?_, h.dlt⟩
  · obtain ⟨av0, g1, g2, g3⟩ := hlk2 d av' h2 (by omega)
    obtain ⟨v, g4, g5⟩ := h.slot d av0 g1 h3
    refine ⟨v, g4, ?_⟩
    have htt : av'.t = av0.t ∧ av'.o = av0.o := by rcases g3 with rfl | ⟨_, rfl, rfl⟩ <;> exact ⟨rfl, rfl⟩
    unfold AVRep at g5 ⊢
    rw [htt.1, htt.2, g2]
    by_cases t0 : av0.t = 0
    · rw [if_pos t0] at g5 ⊢
      exact ⟨g5.1, htk d av0 av' g1 g3 _ g5.2⟩
    · rw [if_neg t0] at g5 ⊢
      by_cases t2 : av0.t = 2
      · rw [if_pos t2] at g5 ⊢
        rcases g3 with rfl | ⟨_, rfl, rfl⟩
        · exact g5
        · rw [t2] at ht2; cases ht2
      · rw [if_neg t2] at g5 ⊢
        exact g5
  · obtain ⟨av0, g1, g2, g3⟩ := hlk2 (100000 + m) av' h2 (by omega)
    obtain ⟨xs, ty, g4, g5, g6, g7, g8⟩ := h.boxes m av0 g1 h3
    exact ⟨xs, ty, g4, by rw [g2]; exact g5, g6, g7, htk _ av0 av' g1 g3 _ g8⟩
  · obtain ⟨av0, g1, _⟩ := hlk2 (100000 + m) av' h2 (by omega)
    obtain ⟨aw0, g2, _⟩ := hlk2 (100000 + k) aw h3 (by omega)
    exact h.inj m k av0 aw0 g1 g2 h4 h5
  · by_cases e1 : m = n
    · subst e1
      have hf : f.2 = z := by have := h2.1; rw [hs', look_same] at this; injection this with this; injection this with _ _ _ _ e2; injection e2 with e2 _; exact e2.symm
      rw [htv]
      simp only [if_true]
      exact ⟨z, 0, [], World.ownsRow_nil _ _ _ _, ⟨hz, hf.symm⟩, fun g hg => by cases hg⟩
    · obtain ⟨z', k, xs, g1, g2, g3⟩ := h.toks m f (hl m f h2 e1)
      rw [htv]
      simp only [e1, if_false]
      refine ⟨z', k, xs, g1, g2, fun g hg => ⟨(g3 g hg).1, fun q av' h3 h4 => ?_⟩⟩
      obtain ⟨av0, g5, _⟩ := hlk2 (100000 + q) av' h3 (by omega)
      exact (g3 g hg).2 q av0 g5 h4
  · rw [htv] at hg ⊢
    by_cases e1 : m = n
    · simp only [e1, if_true] at hg; cases hg
    · simp only [e1, if_false] at hg
      by_cases e2 : k = n
      · simp only [e2, if_true]; intro h; cases h
      · simp only [e2, if_false]
        exact h.tinj m k f f' (hl m f h2 e1) (hl k f' h3 e2) hne g hg

/-- A value is known no more as one that may grow. -/
def plainAt (k : Nat) : AS → AS
  | [] => []
  | (d, av) :: s => (d, match Nat.beq d k with | true => (match Nat.beq av.t 2 with | true => av | false => ⟨av.t, av.c, 0, av.o, av.p⟩) | false => av) :: plainAt k s
theorem look_plain (k : Nat) : ∀ {s : AS} {d : Nat} {av : AV}, look (plainAt k s) d = some av → ∃ av0, look s d = some av0 ∧ (av = av0 ∨ (av0.t ≠ 2 ∧ av = ⟨av0.t, av0.c, 0, av0.o, av0.p⟩))
  | [], _, _, h => by simp [plainAt, look] at h
  | (e, x) :: s, d, av, h => by
    rw [plainAt, look_cons] at h
    split at h
    · rename_i hed
      subst hed
      refine ⟨x, look_same _ _ _, ?_⟩
      cases hk : Nat.beq e k with
      | false => rw [hk] at h; cases h; exact .inl rfl
      | true =>
        rw [hk] at h
        cases ht : Nat.beq x.t 2 with
        | true => rw [ht] at h; cases h; exact .inl rfl
        | false => rw [ht] at h; cases h; exact .inr ⟨(fun e => by rw [e] at ht; cases ht), rfl⟩
    · rename_i hed
      rw [look_ne hed]
      exact look_plain k h
theorem wk_plain (k : Nat) (hk : Nat.blt k 200000 = true) : Wk w0 U0 nt s (plainAt k s) := by
  rintro a w ⟨D, bx, tv, h⟩
  have hl : ∀ n e, Live (plainAt k s) n e → Live s n e := fun n e ⟨h1, h2⟩ => by
    obtain ⟨av0, g1, g2⟩ := look_plain k h1
    rcases g2 with rfl | ⟨_, g2⟩
    · exact ⟨g1, h2⟩
    · refine ⟨?_, h2⟩
      have hkn : look (plainAt k s) n = look s n := by
        have hk := blt_lt hk
        have : ∀ (s : AS), look (plainAt k s) n = look s n := by
          intro s
          induction s with
          | nil => rfl
          | cons p s ih =>
            obtain ⟨e, x⟩ := p
            rw [plainAt, look_cons, look_cons, ih]
            by_cases he : e = n
            · rw [if_pos he, if_pos he, beq_ne (by omega : e ≠ k)]
            · rw [if_neg he, if_neg he]
        exact this s
      rw [← hkn]; exact h1
  have hln : ∀ n, LiveN (plainAt k s) n → LiveN s n := fun n h1 => h1.imp id fun ⟨e, he⟩ => ⟨e, hl _ _ he⟩
  have hbox : ∀ m av, look (plainAt k s) (100000 + m) = some av → ∃ av0, look s (100000 + m) = some av0 := fun m av h1 => by
    obtain ⟨av0, g1, _⟩ := look_plain k h1; exact ⟨av0, g1⟩
  refine ⟨D, bx, tv, h.below, h.dfr, h.size, fun d av h1 h2 => ?_, fun n av h1 h2 => ?_, fun n m av aw h1 h2 h3 h4 => ?_, fun n e h1 => ?_, fun n m e f h1 h2 => h.tinj n m e f (hl _ _ h1) (hl _ _ h2), h.dlt⟩
  · obtain ⟨av0, g1, g2⟩ := look_plain k h1
    obtain ⟨v, g3, g4⟩ := h.slot d av0 g1 h2
    refine ⟨v, g3, ?_⟩
    rcases g2 with rfl | ⟨gt, rfl⟩
    · unfold AVRep at g4 ⊢
      by_cases h0 : av.t = 0
      · rw [if_pos h0] at g4 ⊢
        exact ⟨g4.1, fun he => g4.2 (hln _ he)⟩
      · rw [if_neg h0] at g4 ⊢
        exact g4
    · unfold AVRep at g4 ⊢
      by_cases h0 : av0.t = 0
      · rw [if_pos h0] at g4 ⊢
        exact ⟨g4.1, fun he => absurd he not_live0⟩
      · rw [if_neg h0, if_neg gt] at g4 ⊢
        exact g4
  · obtain ⟨av0, g1, g2⟩ := look_plain k h1
    obtain ⟨xs, ty, b1, b2, b3, b4, b5⟩ := h.boxes n av0 g1 h2
    rcases g2 with rfl | ⟨gt, rfl⟩
    · exact ⟨xs, ty, b1, b2, b3, b4, fun he => b5 (hln _ he)⟩
    · exact ⟨xs, ty, b1, b2, b3, b4, fun he => absurd he not_live0⟩
  · obtain ⟨a1, g1⟩ := hbox n av h1
    obtain ⟨a2, g2⟩ := hbox m aw h2
    exact h.inj n m a1 a2 g1 g2 h3 h4
  · obtain ⟨z, q, xs, g1, g2, g3⟩ := h.toks n e (hl _ _ h1)
    refine ⟨z, q, xs, g1, g2, fun g hg => ⟨(g3 g hg).1, fun m av h3 h4 => ?_⟩⟩
    obtain ⟨a1, g4⟩ := hbox m av h3
    exact (g3 g hg).2 m a1 g4 h4

/-- The name n is another. -/
def renAV (n n' : Nat) (av : AV) : AV := ⟨av.t, av.c, match Nat.beq av.t 2, Nat.beq av.n n with | false, true => n' | _, _ => av.n, av.o, av.p⟩
def ren (n n' : Nat) : AS → AS
  | [] => []
  | (k, av) :: s => (match Nat.beq k n with | true => n' | false => k, renAV n n' av) :: ren n n' s
def noKey (s : AS) (n : Nat) : Bool := s.all fun p => !Nat.beq p.1 n
theorem look_ren {n n' : Nat} : ∀ {s : AS}, noKey s n' = true → ∀ {k : Nat} {av : AV}, look (ren n n' s) k = some av → ∃ k0 av0, look s k0 = some av0 ∧ av = renAV n n' av0 ∧ ((k0 = n ∧ k = n') ∨ (k0 ≠ n ∧ k0 ≠ n' ∧ k = k0))
  | [], _, k, av, h => by simp [ren, look] at h
  | (d, x) :: s, hno, k, av, h => by
    unfold noKey at hno
    rw [List.all_cons, Bool.and_eq_true] at hno
    have hdn : d ≠ n' := fun e => by have := hno.1; rw [e] at this; simp at this
    obtain ⟨kd, hkd⟩ : ∃ kd, kd = (match Nat.beq d n with | true => n' | false => d) := ⟨_, rfl⟩
    rw [ren, ← hkd, look_cons] at h
    split at h
    · rename_i e
      rw [hkd] at e
      cases h
      by_cases hd : d = n
      · subst hd
        refine ⟨d, x, look_same _ _ _, rfl, .inl ⟨rfl, ?_⟩⟩
        rw [← e, Nat.beq_refl]
      · refine ⟨d, x, look_same _ _ _, rfl, .inr ⟨hd, hdn, ?_⟩⟩
        rw [← e, beq_ne hd]
    · rename_i e
      rw [hkd] at e
      obtain ⟨k0, av0, h1, h2, h3⟩ := look_ren (s := s) hno.2 h
      refine ⟨k0, av0, ?_, h2, h3⟩
      rw [look_ne]
      · exact h1
      · rintro rfl
        apply e
        rcases h3 with ⟨h4, h5⟩ | ⟨h4, h5, h6⟩
        · rw [h4, Nat.beq_refl, h5]
        · rw [beq_ne h4, h6]
theorem wk_ren (n n' : Nat) (hn : Nat.ble 200000 n = true) (hn' : Nat.ble 200000 n' = true) (hr : noRefB s [n'] = true) (hk : noKey s n' = true) : Wk w0 U0 nt s (ren n n' s) := by
  rintro a w ⟨D, bx, tv, h⟩
  have hn := Nat.le_of_ble_eq_true hn
  have hn' := Nat.le_of_ble_eq_true hn'
  have hr := noRefB_spec hr n' (by simp)
  obtain ⟨s', hs'⟩ : ∃ s', s' = ren n n' s := ⟨_, rfl⟩
  rw [← hs']
  have hlk : ∀ {k av}, look s' k = some av → ∃ k0 av0, look s k0 = some av0 ∧ av = renAV n n' av0 ∧ ((k0 = n ∧ k = n') ∨ (k0 ≠ n ∧ k0 ≠ n' ∧ k = k0)) := fun {k av} h1 => by rw [hs'] at h1; exact look_ren hk h1
  have hlow : ∀ {k av}, look s' k = some av → k < 200000 → ∃ av0, look s k = some av0 ∧ av = renAV n n' av0 := fun {k av} h1 h2 => by
    obtain ⟨k0, av0, g1, g2, g3⟩ := hlk h1
    rcases g3 with ⟨g4, g5⟩ | ⟨g4, g5, g6⟩
    · omega
    · rw [g6]; exact ⟨av0, g1, g2⟩
  have hlive : ∀ {m f}, Live s' m f → ∃ m0, Live s m0 f ∧ ((m0 = n ∧ m = n') ∨ (m0 ≠ n ∧ m0 ≠ n' ∧ m = m0)) := fun {m f} h1 => by
    obtain ⟨k0, av0, g1, g2, g3⟩ := hlk h1.1
    refine ⟨k0, ⟨?_, ?_⟩, g3⟩
    · rw [g1]
      unfold renAV at g2
      obtain ⟨t, c, n0, o, p⟩ := av0
      injection g2 with e1 e2 e3 e4 e5
      simp only at e1 e2 e3 e4 e5
      subst e1; subst e2; subst e4; subst e5
      have : n0 = 0 := by
        by_cases e : n0 = n
        · rw [e, Nat.beq_refl] at e3; have e3 : 0 = n' := e3; omega
        · rw [beq_ne e] at e3; exact e3.symm
      rw [this]
    · have := h1.2
      rcases g3 with ⟨g4, g5⟩ | ⟨g4, g5, g6⟩ <;> omega
  obtain ⟨tv', htv⟩ : ∃ tv' : Nat → Value, tv' = fun x => if x = n' then tv n else tv x := ⟨_, rfl⟩
  have htk : ∀ k av0, look s k = some av0 → ∀ us, Tk tv (LiveN s) av0 us → Tk tv' (LiveN s') (renAV n n' av0) us := fun k av0 h1 us ht hlv => by
    have hne := hr k av0 h1
    by_cases e : av0.n = n ∧ av0.t ≠ 2
    · obtain ⟨e, e2⟩ := e
      have e' : (renAV n n' av0).n = n' := by unfold renAV; simp only [e, Nat.beq_refl, beq_ne e2]
      have hl : LiveN s av0.n := by
        rw [e'] at hlv
        rcases hlv with h2 | ⟨f, hf⟩
        · omega
        · obtain ⟨m0, g1, g2⟩ := hlive hf
          rcases g2 with ⟨g3, _⟩ | ⟨g3, g4, g5⟩
          · exact .inr ⟨f, by rw [e, ← g3]; exact g1⟩
          · omega
      obtain ⟨m, c, g1, g2⟩ := ht hl
      refine ⟨m, c, g1, ?_⟩
      rw [g2, e']
      unfold tokv
      rw [if_neg (by omega), if_neg (by omega), htv, e]
      simp
    · have e' : (renAV n n' av0).n = av0.n := by
        unfold renAV
        by_cases e3 : av0.n = n
        · have e4 : av0.t = 2 := Decidable.byContradiction fun e4 => e ⟨e3, e4⟩
          simp only [e4, Nat.beq_refl]
        · simp only [beq_ne e3]
          cases Nat.beq av0.t 2 <;> rfl
      have hl : LiveN s av0.n := by
        rw [e'] at hlv
        refine hlv.imp id fun ⟨f, hf⟩ => ⟨f, ?_⟩
        obtain ⟨m0, g1, g2⟩ := hlive hf
        rcases g2 with ⟨g3, g4⟩ | ⟨g3, g4, g5⟩
        · exact absurd g4 hne
        · rw [g5]; exact g1
      obtain ⟨m, c, g1, g2⟩ := ht hl
      refine ⟨m, c, g1, ?_⟩
      rw [g2, e']
      unfold tokv
      simp only [htv, hne, if_false]
  refine ⟨D, bx, tv', h.below, h.dfr, h.size, fun d av h1 h2 => ?_, fun m av h1 h2 => ?_, fun m k av aw h1 h2 h3 h4 => ?_, fun m f h1 => ?_, fun m k f f' h1 h2 hne g hg => ?_, h.dlt⟩
  · obtain ⟨av0, g1, rfl⟩ := hlow h1 (by omega)
    obtain ⟨v, g4, g5⟩ := h.slot d av0 g1 h2
    refine ⟨v, g4, ?_⟩
    unfold AVRep at g5 ⊢
    rw [show (renAV n n' av0).t = av0.t from rfl, show (renAV n n' av0).c = av0.c from rfl, show (renAV n n' av0).o = av0.o from rfl]
    by_cases t0 : av0.t = 0
    · rw [if_pos t0] at g5 ⊢
      exact ⟨g5.1, htk d av0 g1 _ g5.2⟩
    · rw [if_neg t0] at g5 ⊢
      by_cases t2 : av0.t = 2
      · rw [if_pos t2] at g5 ⊢
        rw [show (renAV n n' av0).n = av0.n by unfold renAV; simp only [t2, Nat.beq_refl]]
        exact g5
      · rw [if_neg t2] at g5 ⊢
        exact g5
  · obtain ⟨av0, g1, rfl⟩ := hlow h1 (by omega)
    obtain ⟨xs, ty, g4, g5, g6, g7, g8⟩ := h.boxes m av0 g1 h2
    exact ⟨xs, ty, g4, g5, g6, g7, htk _ av0 g1 _ g8⟩
  · obtain ⟨av0, g1, _⟩ := hlow h1 (by omega)
    obtain ⟨aw0, g2, _⟩ := hlow h2 (by omega)
    exact h.inj m k av0 aw0 g1 g2 h3 h4
  · obtain ⟨m0, g1, g2⟩ := hlive h1
    obtain ⟨z, k, xs, g3, g4, g5⟩ := h.toks m0 f g1
    have e : tv' m = tv m0 := by
      rw [htv]
      rcases g2 with ⟨g6, g7⟩ | ⟨g6, g7, g8⟩
      · rw [g7, g6]; simp
      · simp only [g8, g7, if_false]
    rw [e]
    refine ⟨z, k, xs, g3, g4, fun g hg => ⟨(g5 g hg).1, fun q av h2 h3 => ?_⟩⟩
    obtain ⟨av0, g6, _⟩ := hlow h2 (by omega)
    exact (g5 g hg).2 q av0 g6 h3
  · obtain ⟨m0, g1, g2⟩ := hlive h1
    obtain ⟨k0, g3, g4⟩ := hlive h2
    have e1 : tv' m = tv m0 := by
      rw [htv]
      rcases g2 with ⟨g6, g7⟩ | ⟨g6, g7, g8⟩
      · rw [g7, g6]; simp
      · simp only [g8, g7, if_false]
    have e2 : tv' k = tv k0 := by
      rw [htv]
      rcases g4 with ⟨g6, g7⟩ | ⟨g6, g7, g8⟩
      · rw [g7, g6]; simp
      · simp only [g8, g7, if_false]
    rw [e1] at hg
    rw [e2]
    refine h.tinj m0 k0 f f' g1 g3 (fun e => hne ?_) g hg
    rcases g2 with ⟨g6, g7⟩ | ⟨g6, g7, g8⟩ <;> rcases g4 with ⟨g9, g10⟩ | ⟨g9, g10, g11⟩ <;> omega
end
end Go.Proofs.Ytffecopfikbbbaa
