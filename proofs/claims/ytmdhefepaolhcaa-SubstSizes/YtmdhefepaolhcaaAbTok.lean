/-
  Rows that may grow: nil gets a name, a name is another.
-/
import Derived.Test.YtmdhefepaolhcaaAbCode
namespace Go.Proofs.Ytmdhefepaolhcaa
open Go.RowKit
set_option linter.unusedVariables false
set_option linter.unusedSimpArgs false

section
variable {P : Program} {w0 : World} {U0 : UX} {nt : Nat} {s : AS}

theorem beq_ne {a b : Nat} (h : a ≠ b) : Nat.beq a b = false := by
  cases e : Nat.beq a b with
  | false => rfl
  | true => exact absurd (Nat.eq_of_beq_eq_true e) h
theorem rnB {n : Nat} (h : (Nat.ble 200000 n && Nat.blt n 400000) = true) : 200000 ≤ n ∧ n < 400000 := by
  rw [Bool.and_eq_true] at h
  exact ⟨Nat.le_of_ble_eq_true h.1, blt_lt h.2⟩
theorem tokv_nil {hv : Nat → Value} : tokv hv 1 = .slice none 0 0 := rfl
/-- What is nil may grow under a name. -/
theorem wk_nil (kk n e z : Nat) {av : AV} (hk : look s kk = some av) (h1 : av.n = 1) (ht0 : (Nat.beq av.t 0 || Nat.beq av.t 5) = true) (hkk : Nat.blt kk 200000 = true) (hn : (Nat.ble 200000 n && Nat.blt n 400000) = true) (hz : Nat.blt 0 z = true) (hr : noRefB s [(n, [])] = true) : Wk w0 U0 nt s ((n, .tok e z) :: (kk, { av with n := n }) :: s) := by
  rintro a w ⟨D, hv, h⟩
  obtain ⟨hn, hnx⟩ := rnB hn
  have hkk := blt_lt hkk
  have hz := blt_lt hz
  have hr := (noRefB_spec hr (n, []) (by simp)).nr
  have ht2 : av.t = 0 ∨ av.t = 5 := by
    rw [Bool.or_eq_true] at ht0
    exact ht0.imp Nat.eq_of_beq_eq_true Nat.eq_of_beq_eq_true
  obtain ⟨hv1, hhv⟩ : ∃ hv1 : Nat → Value, hv1 = fun x => if x = n then .slice none 0 0 else hv x := ⟨_, rfl⟩
  have hG : SimG w0 U0 nt ((n, .tok e z) :: s) a w D hv1 := by
    rw [hhv]
    exact h.newrow (X := fun _ => False) (v' := .slice none 0 0) ⟨hn, hnx⟩ hr (by simp) (BelowX.refl _ _) (fun b hb => hb.elim) (fun g hg => by cases hg) (fun b o hd => .inl hd) h.dlt (fun b o u h1 h2 => ⟨h1, h2⟩) (fun hv lv => by unfold OC; exact ⟨0, [], World.ownsRow_nil _ _ _ _, hz⟩)
  have hvn : hv1 n = .slice none 0 0 := by rw [hhv]; simp
  obtain ⟨t, ht⟩ : ∃ t, t = (n, AV.tok e z) :: (kk, { av with n := n }) :: s := ⟨_, rfl⟩
  obtain ⟨t0, ht1⟩ : ∃ t0, t0 = (n, AV.tok e z) :: s := ⟨_, rfl⟩
  rw [← ht]
  rw [← ht1] at hG
  have hlk : ∀ k, k ≠ kk → look t k = look t0 k := fun k h2 => by
    rw [ht, ht1]
    by_cases e : n = k
    · subst e; rw [look_same, look_same]
    · rw [look_ne e, look_ne e, look_ne (Ne.symm h2)]
  have hlt : look t kk = some { av with n := n } := by rw [ht, look_ne (by omega), look_same]
  have hlt0 : look t0 kk = some av := by rw [ht1, look_ne (by omega)]; exact hk
  have hl : ∀ m f, Live t m f ↔ Live t0 m f := fun m f => by
    unfold Live
    by_cases e : m = kk
    · constructor <;> rintro ⟨_, h3, _⟩ <;> omega
    · rw [hlk m e]
  have hl2 : LiveN t = LiveN t0 := by funext m; simp only [LiveN, hl]
  have hlv : LiveN t0 n := .inr ⟨(e, z), by rw [ht1]; exact ⟨look_same _ _ _, hn, hnx⟩⟩
  have htk : ∀ us, Tk hv1 (LiveN t0) av us → Tk hv1 (LiveN t0) { av with n := n } us := fun us h2 _ => by
    obtain ⟨m, c, g1, g2⟩ := h2 (.inl h1)
    refine ⟨m, c, g1, ?_⟩
    rw [g2, h1, tokv_nil]
    unfold tokv
    simp only
    rw [if_neg (by omega), hvn]
  refine ⟨D, hv1, hG.below, hG.dfr, hG.size, fun d av' h2 h3 => ?_, fun m o av' h2 h3 h4 h6 => ?_, fun m o o' av1 av2 h2 h3 => ?_, fun k av' h2 h3 => ?_, fun k av' g h2 h3 h4 h6 => ?_, fun k k' av1 av2 g h2 h3 h4 h6 h7 h8 hne => ?_, hG.fix, hG.dlt⟩
  · rw [hl2]
    by_cases e : d = kk
    · subst e
      rw [hlt] at h2
      cases h2
      obtain ⟨v, g4, g5⟩ := hG.slot d av hlt0 h3
      refine ⟨v, g4, ?_⟩
      unfold AVRep at g5 ⊢
      simp only
      rcases ht2 with ht2 | ht2
      · rw [if_pos ht2] at g5 ⊢
        exact ⟨g5.1, htk _ g5.2⟩
      · rw [if_neg (by omega), if_neg (by omega), if_neg (by omega), if_neg (by omega), if_neg (by omega), if_neg (by omega), if_neg (by omega), if_neg (by omega)]
        trivial
    · rw [hlk d e] at h2
      exact hG.slot d av' h2 h3
  · rw [hl2]
    rw [hlk _ (by unfold fKey; omega)] at h2
    have hne : 100000 + m ≠ kk := fun e => by
      rw [e, hlt] at h4
      injection h4 with h4
      rcases ht2 with ht2 | ht2 <;> (have := congrArg AV.t h4; simp only at this; omega)
    rw [hlk _ hne] at h4
    exact hG.fld m o av' h2 h3 h4 h6
  · rw [hlk _ (by unfold fKey; omega)] at h2 h3
    exact hG.fdis m o o' av1 av2 h2 h3
  · rw [hl2]
    by_cases e : k = kk
    · subst e
      rw [hlt] at h2
      cases h2
      have g5 := hG.obj k av hlt0 h3
      unfold OC at g5 ⊢
      simp only
      rcases ht2 with ht2 | ht2
      · rw [if_neg (by omega), if_neg (by omega), if_neg (by omega), if_neg (by omega), if_neg (by omega)]
        trivial
      · rw [if_pos ht2] at g5 ⊢
        obtain ⟨g, xs, ty, e1, e2, e3, e4⟩ := g5
        exact ⟨g, xs, ty, e1, e2, e3, htk _ e4⟩
    · rw [hlk k e] at h2
      exact hG.obj k av' h2 h3
  · by_cases e : k = kk
    · subst e
      rw [hlt] at h2
      cases h2
      have := hG.blk k av g hlt0 h3 h4 h6
      exact this
    · rw [hlk k e] at h2
      exact hG.blk k av' g h2 h3 h4 h6
  · have conv : ∀ q (aq : AV), look t q = some aq → aq.t ≠ 7 → ∃ aq', look t0 q = some aq' ∧ aq'.t ≠ 7 := fun q aq f1 f2 => by
      by_cases e : q = kk
      · subst e
        rw [hlt] at f1
        cases f1
        exact ⟨av, hlt0, f2⟩
      · rw [hlk q e] at f1; exact ⟨aq, f1, f2⟩
    obtain ⟨a1, b1, c1⟩ := conv k av1 h2 h7
    obtain ⟨a2, b2, c2⟩ := conv k' av2 h3 h8
    exact hG.disj k k' a1 a2 g b1 b2 h4 h6 c1 c2 hne

/-- A value is known no more as one that may grow. -/
def plainAt (k : Nat) : AS → AS
  | [] => []
  | (d, av) :: s => (d, match Nat.beq d k with | true => (match Nat.beq av.t 0 || Nat.beq av.t 5 with | false => av | true => ⟨av.t, av.c, 0, av.o, av.p⟩) | false => av) :: plainAt k s
theorem look_plain (k : Nat) : ∀ {s : AS} {d : Nat} {av : AV}, look (plainAt k s) d = some av → ∃ av0, look s d = some av0 ∧ (av = av0 ∨ ((av0.t = 0 ∨ av0.t = 5) ∧ av = ⟨av0.t, av0.c, 0, av0.o, av0.p⟩))
  | [], _, _, h => by simp [plainAt, look] at h
  | (e, x) :: s, d, av, h => by
    rw [plainAt, look_cons] at h
    split at h
    · rename_i hed
      subst hed
      refine ⟨x, look_same _ _ _, ?_⟩
      cases hk : Nat.beq e k with
      | false => rw [hk] at h; cases h; exact .inl rfl
      | true =>
        rw [hk] at h
        cases ht : Nat.beq x.t 0 || Nat.beq x.t 5 with
        | false => rw [ht] at h; cases h; exact .inl rfl
        | true =>
          rw [ht] at h
          cases h
          rw [Bool.or_eq_true] at ht
          exact .inr ⟨ht.imp Nat.eq_of_beq_eq_true Nat.eq_of_beq_eq_true, rfl⟩
    · rename_i hed
      rw [look_ne hed]
      exact look_plain k h
theorem wk_plain (k : Nat) (hk : Nat.blt k 200000 = true) : Wk w0 U0 nt s (plainAt k s) := by
  rintro a w ⟨D, hv, h⟩
  obtain ⟨t, ht⟩ : ∃ t, t = plainAt k s := ⟨_, rfl⟩
  rw [← ht]
  have hlk : ∀ {d av}, look t d = some av → ∃ av0, look s d = some av0 ∧ (av = av0 ∨ ((av0.t = 0 ∨ av0.t = 5) ∧ av = ⟨av0.t, av0.c, 0, av0.o, av0.p⟩)) := fun {d av} h1 => by rw [ht] at h1; exact look_plain k h1
  have hsm : ∀ {d av}, look t d = some av → av.t ≠ 0 → av.t ≠ 5 → look s d = some av := fun {d av} h1 h2 h3 => by
    obtain ⟨av0, g1, g2⟩ := hlk h1
    rcases g2 with rfl | ⟨g3, rfl⟩
    · exact g1
    · simp only at h2 h3; omega
  have hl : ∀ n e, Live t n e → Live s n e := fun n e ⟨h1, h2⟩ => ⟨hsm h1 (by simp) (by simp), h2⟩
  have hln : ∀ n, LiveN t n → LiveN s n := fun n h1 => h1.imp id fun ⟨e, he⟩ => ⟨e, hl _ _ he⟩
  have hid : ∀ b o v, Us w0 U0 D b o → w.cell? ⟨b, o, none⟩ = some v → Us w0 U0 D b o ∧ w.cell? ⟨b, o, none⟩ = some v := fun _ _ _ h1 h2 => ⟨h1, h2⟩
  have hav : ∀ {av0 av v}, (av = av0 ∨ ((av0.t = 0 ∨ av0.t = 5) ∧ av = ⟨av0.t, av0.c, 0, av0.o, av0.p⟩)) → AVRep (Us w0 U0 D) w hv (LiveN s) av0 v → AVRep (Us w0 U0 D) w hv (LiveN t) av v := fun {av0 av v} h1 h2 => by
    rcases h1 with rfl | ⟨h3, rfl⟩
    · exact h2.move hid (fun _ => hln _) fun _ => rfl
    · unfold AVRep at h2 ⊢
      simp only
      rcases h3 with h3 | h3
      · rw [if_pos h3] at h2 ⊢
        exact ⟨h2.1, fun he => absurd he not_live0⟩
      · rw [if_neg (by omega), if_neg (by omega), if_neg (by omega), if_neg (by omega), if_neg (by omega), if_neg (by omega), if_neg (by omega), if_neg (by omega)]
        trivial
  have hsz : ∀ {av0 av : AV}, (av = av0 ∨ ((av0.t = 0 ∨ av0.t = 5) ∧ av = ⟨av0.t, av0.c, 0, av0.o, av0.p⟩)) → av.sz = av0.sz ∧ av.t = av0.t := fun {av0 av} h1 => by
    rcases h1 with rfl | ⟨h3, rfl⟩
    · exact ⟨rfl, rfl⟩
    · exact ⟨rfl, rfl⟩
  refine ⟨D, hv, h.below, h.dfr, h.size, fun d av h1 h2 => ?_, fun m o av h1 h2 h3 h4 => ?_, fun m o o' av av' h1 h2 => ?_, fun q av h1 h2 => ?_, fun q av g h1 h2 h3 h4 => ?_, fun q q' av av' g h1 h2 h3 h4 h5 h6 => ?_, h.fix, h.dlt⟩
  · obtain ⟨av0, g1, g2⟩ := hlk h1
    obtain ⟨v, g3, g4⟩ := h.slot d av0 g1 h2
    exact ⟨v, g3, hav g2 g4⟩
  · obtain ⟨av0, g1, g2⟩ := hlk h1
    obtain ⟨v, g3, g4, g5⟩ := h.fld m o av0 g1 h2 (hsm h3 (by simp) (by simp)) h4
    exact ⟨v, hav g2 g3, by rw [(hsz g2).1]; exact g4, g5⟩
  · obtain ⟨av0, g1, g2⟩ := hlk h1
    obtain ⟨av1, g3, g4⟩ := hlk h2
    rw [(hsz g2).1]
    exact h.fdis m o o' av0 av1 g1 g3
  · obtain ⟨av0, g1, g2⟩ := hlk h1
    have g5 := h.obj q av0 g1 h2
    rcases g2 with rfl | ⟨h3, rfl⟩
    · exact g5.move hid (fun _ he => ⟨hln _ he, rfl⟩) fun _ _ => rfl
    · unfold OC at g5 ⊢
      simp only
      rcases h3 with h3 | h3
      · rw [if_neg (by omega), if_neg (by omega), if_neg (by omega), if_neg (by omega), if_neg (by omega)]
        trivial
      · rw [if_pos h3] at g5 ⊢
        obtain ⟨g, xs, ty, e1, e2, e3, e4⟩ := g5
        exact ⟨g, xs, ty, e1, e2, e3, fun he => absurd he not_live0⟩
  · obtain ⟨av0, g1, g2⟩ := hlk h1
    have e := (hsz g2).2
    obtain ⟨f1, f2, f3⟩ := h.blk q av0 g g1 h2 (by rw [← e]; exact h3) h4
    refine ⟨by rw [lcl_eq e]; exact f1, f2, ?_⟩
    rcases g2 with rfl | ⟨h3, rfl⟩
    · exact f3
    · exact f3
  · obtain ⟨av0, g1, g2⟩ := hlk h1
    obtain ⟨av1, g3, g4⟩ := hlk h2
    exact h.disj q q' av0 av1 g g1 g3 h3 h4 (by rw [← (hsz g2).2]; exact h5) (by rw [← (hsz g4).2]; exact h6)

/-- The name n is another. -/
def renAV (n n' : Nat) (av : AV) : AV := ⟨av.t, av.c, match Nat.beq av.t 2, Nat.beq av.n n with | false, true => n' | _, _ => av.n, av.o, av.p⟩
def ren (n n' : Nat) : AS → AS
  | [] => []
  | (k, av) :: s => (match Nat.beq k n with | true => n' | false => k, renAV n n' av) :: ren n n' s
def noKey (s : AS) (n : Nat) : Bool := s.all fun p => !Nat.beq p.1 n
theorem look_ren {n n' : Nat} : ∀ {s : AS}, noKey s n' = true → ∀ {k : Nat} {av : AV}, look (ren n n' s) k = some av → ∃ k0 av0, look s k0 = some av0 ∧ av = renAV n n' av0 ∧ ((k0 = n ∧ k = n') ∨ (k0 ≠ n ∧ k0 ≠ n' ∧ k = k0))
  | [], _, k, av, h => by simp [ren, look] at h
  | (d, x) :: s, hno, k, av, h => by
    unfold noKey at hno
    rw [List.all_cons, Bool.and_eq_true] at hno
    have hdn : d ≠ n' := fun e => by have := hno.1; rw [e] at this; simp at this
    obtain ⟨kd, hkd⟩ : ∃ kd, kd = (match Nat.beq d n with | true => n' | false => d) := ⟨_, rfl⟩
    rw [ren, ← hkd, look_cons] at h
    split at h
    · rename_i e
      rw [hkd] at e
      cases h
      by_cases hd : d = n
      · subst hd
        refine ⟨d, x, look_same _ _ _, rfl, .inl ⟨rfl, ?_⟩⟩
        rw [← e, Nat.beq_refl]
      · refine ⟨d, x, look_same _ _ _, rfl, .inr ⟨hd, hdn, ?_⟩⟩
        rw [← e, beq_ne hd]
    · rename_i e
      rw [hkd] at e
      obtain ⟨k0, av0, h1, h2, h3⟩ := look_ren (s := s) hno.2 h
      refine ⟨k0, av0, ?_, h2, h3⟩
      rw [look_ne]
      · exact h1
      · rintro rfl
        apply e
        rcases h3 with ⟨h4, h5⟩ | ⟨h4, h5, h6⟩
        · rw [h4, Nat.beq_refl, h5]
        · rw [beq_ne h4, h6]
theorem renAV_obj {n n' : Nat} {av : AV} (hn : n ≠ 0) (hn' : n' ≠ 0) (h : renAV n n' av = .obj) : av = .obj := by
  obtain ⟨t, c, n0, o, p⟩ := av
  unfold renAV at h
  injection h with e1 e2 e3 e4 e5
  simp only at e1 e2 e3 e4 e5
  subst e1; subst e2; subst e4; subst e5
  by_cases e : n0 = n
  · subst e; rw [Nat.beq_refl] at e3; exact absurd e3 hn'
  · rw [beq_ne e] at e3; rw [show n0 = 0 from e3]
theorem renAV_tok {n n' e z : Nat} {av : AV} (hn : n ≠ 0) (hn' : n' ≠ 0) (h : renAV n n' av = .tok e z) : av = .tok e z := by
  obtain ⟨t, c, n0, o, p⟩ := av
  unfold renAV at h
  injection h with e1 e2 e3 e4 e5
  simp only at e1 e2 e3 e4 e5
  subst e1; subst e2; subst e4; subst e5
  by_cases e : n0 = n
  · subst e; rw [Nat.beq_refl] at e3; exact absurd e3 hn'
  · rw [beq_ne e] at e3; rw [show n0 = 0 from e3]
/-- What may have been lent is not the call's own. -/
def rOk (s : AS) (n n' : Nat) : Bool := match look s n with | some av => Nat.beq av.t 6 || Nat.blt n 300000 || Nat.ble 300000 n' | none => true
theorem rnF {n : Nat} (h : (Nat.ble 200000 n && Nat.blt n 450000) = true) : 200000 ≤ n ∧ n < 450000 := by
  rw [Bool.and_eq_true] at h
  exact ⟨Nat.le_of_ble_eq_true h.1, blt_lt h.2⟩
theorem wk_ren (n n' : Nat) (hn : (Nat.ble 200000 n && Nat.blt n 400000) = true) (hn' : (Nat.ble 200000 n' && Nat.blt n' 400000) = true) (hr : noRefB s [(n', [])] = true) (hk' : (noKey s n' && rOk s n n') = true) : Wk w0 U0 nt s (ren n n' s) := by
  rintro a w ⟨D, hv, h⟩
  have hn := rnB hn
  have hn' := rnB hn'
  rw [Bool.and_eq_true] at hk'
  obtain ⟨hk, hrok⟩ := hk'
  have hr := (noRefB_spec hr (n', []) (by simp)).nr
  obtain ⟨t, ht⟩ : ∃ t, t = ren n n' s := ⟨_, rfl⟩
  rw [← ht]
  have hlk : ∀ {k av}, look t k = some av → ∃ k0 av0, look s k0 = some av0 ∧ av = renAV n n' av0 ∧ ((k0 = n ∧ k = n') ∨ (k0 ≠ n ∧ k0 ≠ n' ∧ k = k0)) := fun {k av} h1 => by rw [ht] at h1; exact look_ren hk h1
  have hlow : ∀ {k av}, look t k = some av → (k < 200000 ∨ 400000 ≤ k) → ∃ av0, look s k = some av0 ∧ av = renAV n n' av0 := fun {k av} h1 h2 => by
    obtain ⟨k0, av0, g1, g2, g3⟩ := hlk h1
    rcases g3 with ⟨g4, g5⟩ | ⟨g4, g5, g6⟩
    · omega
    · rw [g6]; exact ⟨av0, g1, g2⟩
  have hlive : ∀ {m f}, Live t m f → ∃ m0, Live s m0 f ∧ ((m0 = n ∧ m = n') ∨ (m0 ≠ n ∧ m0 ≠ n' ∧ m = m0)) := fun {m f} h1 => by
    obtain ⟨k0, av0, g1, g2, g3⟩ := hlk h1.1
    refine ⟨k0, ⟨?_, ?_⟩, g3⟩
    · rw [g1, renAV_tok (by omega) (by omega) g2.symm]
    · have := h1.2
      rcases g3 with ⟨g4, g5⟩ | ⟨g4, g5, g6⟩ <;> omega
  obtain ⟨hv1, hhv⟩ : ∃ hv1 : Nat → Value, hv1 = fun x => if x = n' then hv n else hv x := ⟨_, rfl⟩
  have hvn : ∀ k, k ≠ n' → hv1 k = hv k := fun k hk => by rw [hhv]; simp only [if_neg hk]
  have hvd : hv1 n' = hv n := by rw [hhv]; simp
  have hid : ∀ b o v, Us w0 U0 D b o → w.cell? ⟨b, o, none⟩ = some v → Us w0 U0 D b o ∧ w.cell? ⟨b, o, none⟩ = some v := fun _ _ _ h1 h2 => ⟨h1, h2⟩
  have hnm : ∀ {k av0}, look s k = some av0 → (av0.t ≠ 2 ∧ av0.n = n ∧ (renAV n n' av0).n = n') ∨ ((av0.t = 2 ∨ av0.n ≠ n) ∧ (renAV n n' av0).n = av0.n) := fun {k av0} h1 => by
    unfold renAV
    by_cases e : av0.n = n
    · by_cases e2 : av0.t = 2
      · right; exact ⟨.inl e2, by simp only [e2, Nat.beq_refl]⟩
      · left; exact ⟨e2, e, by simp only [e, Nat.beq_refl, beq_ne e2]⟩
    · right; refine ⟨.inr e, ?_⟩; simp only [beq_ne e]; cases Nat.beq av0.t 2 <;> rfl
  have hlv : ∀ {k av0}, look s k = some av0 → LiveN t (renAV n n' av0).n → av0.t ≠ 2 → LiveN s av0.n ∧ tokv hv1 (renAV n n' av0).n = tokv hv av0.n := fun {k av0} h1 h2 h3 => by
    have hne := (hr k av0 h1).1
    rcases hnm h1 with ⟨g1, g2, g3⟩ | ⟨g1, g3⟩
    · rw [g3] at h2 ⊢
      rw [g2]
      refine ⟨?_, ?_⟩
      · rcases h2 with h2 | ⟨f, hf⟩
        · omega
        · obtain ⟨m0, f1, f2⟩ := hlive hf
          rcases f2 with ⟨f3, _⟩ | ⟨f3, f4, f5⟩
          · exact .inr ⟨f, f3 ▸ f1⟩
          · omega
      · unfold tokv
        rw [if_neg (by omega), if_neg (by omega), hvd]
    · rw [g3] at h2 ⊢
      refine ⟨?_, ?_⟩
      · rcases h2 with h2 | ⟨f, hf⟩
        · exact .inl h2
        · obtain ⟨m0, f1, f2⟩ := hlive hf
          rcases f2 with ⟨_, f4⟩ | ⟨_, _, f5⟩
          · exact absurd f4 hne
          · rw [f5]; exact .inr ⟨f, f1⟩
      · unfold tokv
        rw [hvn _ hne]
  have hav : ∀ {k av0 v}, look s k = some av0 → AVRep (Us w0 U0 D) w hv (LiveN s) av0 v → AVRep (Us w0 U0 D) w hv1 (LiveN t) (renAV n n' av0) v := fun {k av0 v} h1 h2 => by
    have hne := (hr k av0 h1).1
    unfold AVRep at h2 ⊢
    rw [show (renAV n n' av0).t = av0.t from rfl, show (renAV n n' av0).c = av0.c from rfl, show (renAV n n' av0).o = av0.o from rfl]
    have ez : zOf (renAV n n' av0) = zOf av0 ∧ zSl (renAV n n' av0) = zSl av0 := ⟨rfl, rfl⟩
    rw [ez.1, ez.2]
    by_cases t0 : av0.t = 0
    · rw [if_pos t0] at h2 ⊢
      refine ⟨h2.1, fun he => ?_⟩
      obtain ⟨f1, f2⟩ := hlv h1 he (by omega)
      obtain ⟨m, c, f3, f4⟩ := h2.2 f1
      exact ⟨m, c, f3, by rw [f4, f2]⟩
    rw [if_neg t0] at h2 ⊢
    by_cases t2 : av0.t = 2
    · rw [if_pos t2] at h2 ⊢
      have e : (renAV n n' av0).n = av0.n := by
        rcases hnm h1 with ⟨g1, _⟩ | ⟨_, g⟩
        · exact absurd t2 g1
        · exact g
      have hb := h2.1
      unfold BN at hb
      rw [e, hvn _ (by omega)]
      exact h2
    rw [if_neg t2] at h2 ⊢
    by_cases t3 : av0.t = 3
    · rw [if_pos t3] at h2 ⊢; exact h2
    rw [if_neg t3] at h2 ⊢
    by_cases t4 : av0.t = 4
    · rw [if_pos t4] at h2 ⊢; exact h2
    rw [if_neg t4] at h2 ⊢
    have hR : RN av0.n → RN (renAV n n' av0).n ∧ hv1 (renAV n n' av0).n = hv av0.n := fun h3 => by
      rcases hnm h1 with ⟨g1, g2, g3⟩ | ⟨g1, g3⟩
      · rw [g3, g2]; exact ⟨RW.rn hn', hvd⟩
      · rw [g3]; exact ⟨h3, hvn _ hne⟩
    by_cases t11 : av0.t = 11
    · rw [if_pos t11] at h2 ⊢; obtain ⟨f1, f2⟩ := hR h2.1; rw [f2]; exact ⟨f1, h2.2⟩
    rw [if_neg t11] at h2 ⊢
    by_cases t12 : av0.t = 12
    · rw [if_pos t12] at h2 ⊢; obtain ⟨f1, f2⟩ := hR h2.1; rw [f2]; exact ⟨f1, h2.2⟩
    rw [if_neg t12] at h2 ⊢
    by_cases t15 : av0.t = 15
    · rw [if_pos t15] at h2 ⊢; obtain ⟨f1, f2⟩ := hR h2.1; rw [f2]; exact ⟨f1, h2.2⟩
    rw [if_neg t15] at h2 ⊢
    by_cases t16 : av0.t = 16
    · rw [if_pos t16] at h2 ⊢; exact h2
    rw [if_neg t16]
    trivial
  have hkey : ∀ {k k0}, ((k0 = n ∧ k = n') ∨ (k0 ≠ n ∧ k0 ≠ n' ∧ k = k0)) → hv1 k = hv k0 ∧ (oKey k → oKey k0) := fun {k k0} h1 => by
    unfold oKey
    rcases h1 with ⟨rfl, rfl⟩ | ⟨h2, h3, rfl⟩
    · exact ⟨hvd, fun _ => by omega⟩
    · exact ⟨hvn _ h3, fun h => h⟩
  refine ⟨D, hv1, h.below, h.dfr, h.size, fun d av h1 h2 => ?_, fun m o av h1 h2 h3 h4 => ?_, fun m o o' av av' h1 h2 => ?_, fun k av h1 h2 => ?_, fun k av g h1 h2 h3 h4 => ?_, fun k k' av av' g h1 h2 h3 h4 h5 h6 hne => ?_, fun m g h1 => ?_, h.dlt⟩
  · obtain ⟨av0, g1, rfl⟩ := hlow h1 (by omega)
    obtain ⟨v, g4, g5⟩ := h.slot d av0 g1 h2
    exact ⟨v, g4, hav g1 g5⟩
  · obtain ⟨av0, g1, rfl⟩ := hlow h1 (by unfold fKey; omega)
    obtain ⟨k0, av1, f1, f2, f3⟩ := hlk h3
    have f2 := renAV_obj (by omega) (by omega) f2.symm
    subst f2
    rcases f3 with ⟨f4, f5⟩ | ⟨f4, f5, f6⟩
    · unfold BN at h4; omega
    · rw [← f6] at f1
      obtain ⟨v, g4, g5, g6⟩ := h.fld m o av0 g1 h2 f1 h4
      exact ⟨v, hav g1 g4, g5, by rw [hvn _ (by omega)]; exact g6⟩
  · obtain ⟨av0, g1, rfl⟩ := hlow h1 (by unfold fKey; omega)
    obtain ⟨av1, g2, rfl⟩ := hlow h2 (by unfold fKey; omega)
    exact h.fdis m o o' av0 av1 g1 g2
  · obtain ⟨k0, av0, g1, rfl, g3⟩ := hlk h1
    obtain ⟨e1, e2⟩ := hkey g3
    rw [e1]
    have g5 := h.obj k0 av0 g1 (e2 h2)
    unfold OC at g5 ⊢
    rw [show (renAV n n' av0).t = av0.t from rfl, show (renAV n n' av0).c = av0.c from rfl, show (renAV n n' av0).o = av0.o from rfl]
    have ez : zOf (renAV n n' av0) = zOf av0 := rfl
    rw [ez]
    by_cases t5 : av0.t = 5
    · rw [if_pos t5] at g5 ⊢
      obtain ⟨g, xs, ty, f1, f2, f3, f4⟩ := g5
      refine ⟨g, xs, ty, f1, f2, f3, fun he => ?_⟩
      obtain ⟨f5, f6⟩ := hlv g1 he (by omega)
      obtain ⟨m, c, f7, f8⟩ := f4 f5
      exact ⟨m, c, f7, by rw [f8, f6]⟩
    · rw [if_neg t5] at g5 ⊢
      exact g5
  · obtain ⟨k0, av0, g1, rfl, g3⟩ := hlk h1
    obtain ⟨e1, e2⟩ := hkey g3
    rw [e1] at h4 ⊢
    obtain ⟨f1, f2, f3⟩ := h.blk k0 av0 g g1 (e2 h2) h3 h4
    refine ⟨?_, f2, f3⟩
    rcases g3 with ⟨rfl, rfl⟩ | ⟨_, _, rfl⟩
    · unfold rOk at hrok
      rw [g1] at hrok
      simp only [Bool.or_eq_true] at hrok
      have e3 : (renAV k0 k av0).t = av0.t := rfl
      rcases hrok with (h6 | h6) | h6
      · rw [lcl_tok (Nat.eq_of_beq_eq_true h6)] at f1
        rw [lcl_tok (e3.trans (Nat.eq_of_beq_eq_true h6))]; exact f1
      · rw [lcl_own (blt_lt h6)] at f1
        rcases f1 with f1 | f1
        · exact .inl f1
        · exact absurd rfl f1.1
      · have h7 := Nat.le_of_ble_eq_true h6
        rw [lcl_row h7]
        rcases f1 with f1 | f1
        · exact .inl f1
        · refine .inr ⟨?_, f1.2⟩
          intro e4
          exact f1.1 (lcl_tok e4)
    · exact f1
  · obtain ⟨k0, av0, g1, rfl, g3⟩ := hlk h1
    obtain ⟨k1, av1, g4, rfl, g6⟩ := hlk h2
    obtain ⟨e1, e2⟩ := hkey g3
    obtain ⟨e3, e4⟩ := hkey g6
    rw [e1, e3]
    refine h.disj k0 k1 av0 av1 g g1 g4 (e2 h3) (e4 h4) h5 h6 fun e => hne ?_
    rcases g3 with ⟨f1, f2⟩ | ⟨f1, f2, f3⟩ <;> rcases g6 with ⟨f4, f5⟩ | ⟨f4, f5, f6⟩ <;> omega
  · have := U0.hf m g h1
    rw [hvn _ (by omega)]
    exact h.fix m g h1
def notTok (s : AS) (n : Nat) : Bool := match look s n with | some av => !Nat.beq av.t 6 | none => true
theorem wk_renF (n n' : Nat) (hn : (Nat.ble 200000 n && Nat.blt n 450000) = true) (hn' : (Nat.ble 200000 n' && Nat.blt n' 450000) = true) (hf : U0.f n' = none) (hnt : notTok s n = true) (hr : noRefB s [(n', [])] = true) (hk' : (noKey s n' && rOk s n n') = true) : Wk w0 U0 nt s (ren n n' s) := by
  rintro a w ⟨D, hv, h⟩
  have hn := rnF hn
  have hn' := rnF hn'
  rw [Bool.and_eq_true] at hk'
  obtain ⟨hk, hrok⟩ := hk'
  have hr := (noRefB_spec hr (n', []) (by simp)).nr
  obtain ⟨t, ht⟩ : ∃ t, t = ren n n' s := ⟨_, rfl⟩
  rw [← ht]
  have hlk : ∀ {k av}, look t k = some av → ∃ k0 av0, look s k0 = some av0 ∧ av = renAV n n' av0 ∧ ((k0 = n ∧ k = n') ∨ (k0 ≠ n ∧ k0 ≠ n' ∧ k = k0)) := fun {k av} h1 => by rw [ht] at h1; exact look_ren hk h1
  have hlow : ∀ {k av}, look t k = some av → (k < 200000 ∨ 450000 ≤ k) → ∃ av0, look s k = some av0 ∧ av = renAV n n' av0 := fun {k av} h1 h2 => by
    obtain ⟨k0, av0, g1, g2, g3⟩ := hlk h1
    rcases g3 with ⟨g4, g5⟩ | ⟨g4, g5, g6⟩
    · omega
    · rw [g6]; exact ⟨av0, g1, g2⟩
  have hlive : ∀ {m f}, Live t m f → ∃ m0, Live s m0 f ∧ ((m0 = n ∧ m = n') ∨ (m0 ≠ n ∧ m0 ≠ n' ∧ m = m0)) := fun {m f} h1 => by
    obtain ⟨k0, av0, g1, g2, g3⟩ := hlk h1.1
    refine ⟨k0, ⟨?_, ?_⟩, g3⟩
    · rw [g1, renAV_tok (by omega) (by omega) g2.symm]
    · have := h1.2
      rcases g3 with ⟨g4, g5⟩ | ⟨g4, g5, g6⟩
      · exfalso
        have g7 := renAV_tok (by omega) (by omega) g2.symm
        rw [g4, g7] at g1
        unfold notTok at hnt
        rw [g1] at hnt
        cases hnt
      · omega
  obtain ⟨hv1, hhv⟩ : ∃ hv1 : Nat → Value, hv1 = fun x => if x = n' then hv n else hv x := ⟨_, rfl⟩
  have hvn : ∀ k, k ≠ n' → hv1 k = hv k := fun k hk => by rw [hhv]; simp only [if_neg hk]
  have hvd : hv1 n' = hv n := by rw [hhv]; simp
  have hid : ∀ b o v, Us w0 U0 D b o → w.cell? ⟨b, o, none⟩ = some v → Us w0 U0 D b o ∧ w.cell? ⟨b, o, none⟩ = some v := fun _ _ _ h1 h2 => ⟨h1, h2⟩
  have hnm : ∀ {k av0}, look s k = some av0 → (av0.t ≠ 2 ∧ av0.n = n ∧ (renAV n n' av0).n = n') ∨ ((av0.t = 2 ∨ av0.n ≠ n) ∧ (renAV n n' av0).n = av0.n) := fun {k av0} h1 => by
    unfold renAV
    by_cases e : av0.n = n
    · by_cases e2 : av0.t = 2
      · right; exact ⟨.inl e2, by simp only [e2, Nat.beq_refl]⟩
      · left; exact ⟨e2, e, by simp only [e, Nat.beq_refl, beq_ne e2]⟩
    · right; refine ⟨.inr e, ?_⟩; simp only [beq_ne e]; cases Nat.beq av0.t 2 <;> rfl
  have hlv : ∀ {k av0}, look s k = some av0 → LiveN t (renAV n n' av0).n → av0.t ≠ 2 → LiveN s av0.n ∧ tokv hv1 (renAV n n' av0).n = tokv hv av0.n := fun {k av0} h1 h2 h3 => by
    have hne := (hr k av0 h1).1
    rcases hnm h1 with ⟨g1, g2, g3⟩ | ⟨g1, g3⟩
    · rw [g3] at h2 ⊢
      rw [g2]
      refine ⟨?_, ?_⟩
      · rcases h2 with h2 | ⟨f, hf⟩
        · omega
        · obtain ⟨m0, f1, f2⟩ := hlive hf
          rcases f2 with ⟨f3, _⟩ | ⟨f3, f4, f5⟩
          · exact .inr ⟨f, f3 ▸ f1⟩
          · omega
      · unfold tokv
        rw [if_neg (by omega), if_neg (by omega), hvd]
    · rw [g3] at h2 ⊢
      refine ⟨?_, ?_⟩
      · rcases h2 with h2 | ⟨f, hf⟩
        · exact .inl h2
        · obtain ⟨m0, f1, f2⟩ := hlive hf
          rcases f2 with ⟨_, f4⟩ | ⟨_, _, f5⟩
          · exact absurd f4 hne
          · rw [f5]; exact .inr ⟨f, f1⟩
      · unfold tokv
        rw [hvn _ hne]
  have hav : ∀ {k av0 v}, look s k = some av0 → AVRep (Us w0 U0 D) w hv (LiveN s) av0 v → AVRep (Us w0 U0 D) w hv1 (LiveN t) (renAV n n' av0) v := fun {k av0 v} h1 h2 => by
    have hne := (hr k av0 h1).1
    unfold AVRep at h2 ⊢
    rw [show (renAV n n' av0).t = av0.t from rfl, show (renAV n n' av0).c = av0.c from rfl, show (renAV n n' av0).o = av0.o from rfl]
    have ez : zOf (renAV n n' av0) = zOf av0 ∧ zSl (renAV n n' av0) = zSl av0 := ⟨rfl, rfl⟩
    rw [ez.1, ez.2]
    by_cases t0 : av0.t = 0
    · rw [if_pos t0] at h2 ⊢
      refine ⟨h2.1, fun he => ?_⟩
      obtain ⟨f1, f2⟩ := hlv h1 he (by omega)
      obtain ⟨m, c, f3, f4⟩ := h2.2 f1
      exact ⟨m, c, f3, by rw [f4, f2]⟩
    rw [if_neg t0] at h2 ⊢
    by_cases t2 : av0.t = 2
    · rw [if_pos t2] at h2 ⊢
      have e : (renAV n n' av0).n = av0.n := by
        rcases hnm h1 with ⟨g1, _⟩ | ⟨_, g⟩
        · exact absurd t2 g1
        · exact g
      have hb := h2.1
      unfold BN at hb
      rw [e, hvn _ (by omega)]
      exact h2
    rw [if_neg t2] at h2 ⊢
    by_cases t3 : av0.t = 3
    · rw [if_pos t3] at h2 ⊢; exact h2
    rw [if_neg t3] at h2 ⊢
    by_cases t4 : av0.t = 4
    · rw [if_pos t4] at h2 ⊢; exact h2
    rw [if_neg t4] at h2 ⊢
    have hR : RN av0.n → RN (renAV n n' av0).n ∧ hv1 (renAV n n' av0).n = hv av0.n := fun h3 => by
      rcases hnm h1 with ⟨g1, g2, g3⟩ | ⟨g1, g3⟩
      · rw [g3, g2]; exact ⟨hn', hvd⟩
      · rw [g3]; exact ⟨h3, hvn _ hne⟩
    by_cases t11 : av0.t = 11
    · rw [if_pos t11] at h2 ⊢; obtain ⟨f1, f2⟩ := hR h2.1; rw [f2]; exact ⟨f1, h2.2⟩
    rw [if_neg t11] at h2 ⊢
    by_cases t12 : av0.t = 12
    · rw [if_pos t12] at h2 ⊢; obtain ⟨f1, f2⟩ := hR h2.1; rw [f2]; exact ⟨f1, h2.2⟩
    rw [if_neg t12] at h2 ⊢
    by_cases t15 : av0.t = 15
    · rw [if_pos t15] at h2 ⊢; obtain ⟨f1, f2⟩ := hR h2.1; rw [f2]; exact ⟨f1, h2.2⟩
    rw [if_neg t15] at h2 ⊢
    by_cases t16 : av0.t = 16
    · rw [if_pos t16] at h2 ⊢; exact h2
    rw [if_neg t16]
    trivial
  have hkey : ∀ {k k0}, ((k0 = n ∧ k = n') ∨ (k0 ≠ n ∧ k0 ≠ n' ∧ k = k0)) → hv1 k = hv k0 ∧ (oKey k → oKey k0) := fun {k k0} h1 => by
    unfold oKey
    rcases h1 with ⟨rfl, rfl⟩ | ⟨h2, h3, rfl⟩
    · exact ⟨hvd, fun _ => by omega⟩
    · exact ⟨hvn _ h3, fun h => h⟩
  refine ⟨D, hv1, h.below, h.dfr, h.size, fun d av h1 h2 => ?_, fun m o av h1 h2 h3 h4 => ?_, fun m o o' av av' h1 h2 => ?_, fun k av h1 h2 => ?_, fun k av g h1 h2 h3 h4 => ?_, fun k k' av av' g h1 h2 h3 h4 h5 h6 hne => ?_, fun m g h1 => ?_, h.dlt⟩
  · obtain ⟨av0, g1, rfl⟩ := hlow h1 (by omega)
    obtain ⟨v, g4, g5⟩ := h.slot d av0 g1 h2
    exact ⟨v, g4, hav g1 g5⟩
  · obtain ⟨av0, g1, rfl⟩ := hlow h1 (by unfold fKey; omega)
    obtain ⟨k0, av1, f1, f2, f3⟩ := hlk h3
    have f2 := renAV_obj (by omega) (by omega) f2.symm
    subst f2
    rcases f3 with ⟨f4, f5⟩ | ⟨f4, f5, f6⟩
    · unfold BN at h4; omega
    · rw [← f6] at f1
      obtain ⟨v, g4, g5, g6⟩ := h.fld m o av0 g1 h2 f1 h4
      exact ⟨v, hav g1 g4, g5, by rw [hvn _ (by omega)]; exact g6⟩
  · obtain ⟨av0, g1, rfl⟩ := hlow h1 (by unfold fKey; omega)
    obtain ⟨av1, g2, rfl⟩ := hlow h2 (by unfold fKey; omega)
    exact h.fdis m o o' av0 av1 g1 g2
  · obtain ⟨k0, av0, g1, rfl, g3⟩ := hlk h1
    obtain ⟨e1, e2⟩ := hkey g3
    rw [e1]
    have g5 := h.obj k0 av0 g1 (e2 h2)
    unfold OC at g5 ⊢
    rw [show (renAV n n' av0).t = av0.t from rfl, show (renAV n n' av0).c = av0.c from rfl, show (renAV n n' av0).o = av0.o from rfl]
    have ez : zOf (renAV n n' av0) = zOf av0 := rfl
    rw [ez]
    by_cases t5 : av0.t = 5
    · rw [if_pos t5] at g5 ⊢
      obtain ⟨g, xs, ty, f1, f2, f3, f4⟩ := g5
      refine ⟨g, xs, ty, f1, f2, f3, fun he => ?_⟩
      obtain ⟨f5, f6⟩ := hlv g1 he (by omega)
      obtain ⟨m, c, f7, f8⟩ := f4 f5
      exact ⟨m, c, f7, by rw [f8, f6]⟩
    · rw [if_neg t5] at g5 ⊢
      exact g5
  · obtain ⟨k0, av0, g1, rfl, g3⟩ := hlk h1
    obtain ⟨e1, e2⟩ := hkey g3
    rw [e1] at h4 ⊢
    obtain ⟨f1, f2, f3⟩ := h.blk k0 av0 g g1 (e2 h2) h3 h4
    refine ⟨?_, f2, f3⟩
    rcases g3 with ⟨rfl, rfl⟩ | ⟨_, _, rfl⟩
    · unfold rOk at hrok
      rw [g1] at hrok
      simp only [Bool.or_eq_true] at hrok
      have e3 : (renAV k0 k av0).t = av0.t := rfl
      rcases hrok with (h6 | h6) | h6
      · rw [lcl_tok (Nat.eq_of_beq_eq_true h6)] at f1
        rw [lcl_tok (e3.trans (Nat.eq_of_beq_eq_true h6))]; exact f1
      · rw [lcl_own (blt_lt h6)] at f1
        rcases f1 with f1 | f1
        · exact .inl f1
        · exact absurd rfl f1.1
      · have h7 := Nat.le_of_ble_eq_true h6
        rw [lcl_row h7]
        rcases f1 with f1 | f1
        · exact .inl f1
        · refine .inr ⟨?_, f1.2⟩
          intro e4
          exact f1.1 (lcl_tok e4)
    · exact f1
  · obtain ⟨k0, av0, g1, rfl, g3⟩ := hlk h1
    obtain ⟨k1, av1, g4, rfl, g6⟩ := hlk h2
    obtain ⟨e1, e2⟩ := hkey g3
    obtain ⟨e3, e4⟩ := hkey g6
    rw [e1, e3]
    refine h.disj k0 k1 av0 av1 g g1 g4 (e2 h3) (e4 h4) h5 h6 fun e => hne ?_
    rcases g3 with ⟨f1, f2⟩ | ⟨f1, f2, f3⟩ <;> rcases g6 with ⟨f4, f5⟩ | ⟨f4, f5, f6⟩ <;> omega
  · have hm : m ≠ n' := fun e => by rw [e, hf] at h1; cases h1
    rw [hvn _ hm]
    exact h.fix m g h1
end
end Go.Proofs.Ytmdhefepaolhcaa
