/-
  UnInv UnMod UnJoin UnRun UnKahn UnUse UnCount UnOrd UnEnd UnRef UnAll UnFns1 UnFns2 UnVr UnSize
-/
import Derived.Test.YteegmcfobgpemaaGreatMg4
import Derived.Test.YteegmcfobgpemaaGreatMg3
import Derived.Test.YteegmcfobgpemaaGreatMg2
namespace Go.Proofs.YteegmcfobgpemaaGreat
set_option linter.unusedVariables false
set_option linter.unusedSimpArgs false
def lookV : List (Int × Nat) → Int → Option Nat
  | [], _ => none
  | p :: l, v => if p.1 = v then some p.2 else lookV l v
theorem lookV_snoc (l : List (Int × Nat)) (u : Int) (n : Nat) (v : Int) : lookV (l ++ [(u, n)]) v = (lookV l v).or (if u = v then some n else none) := by
  induction l with
  | nil => rfl
  | cons p l ih =>
    rw [List.cons_append, lookV, lookV]
    split
    · rfl
    · exact ih
def Con (N : Nat) (H : Nat → Nat) (ps : List (Nat × Nat)) (x y : Nat) : Prop := ∀ G : Nat → Nat, (∀ m, m < N → G m = G (H m)) → (∀ p ∈ ps, G p.1 = G p.2) → G x = G y
structure Cls (N : Nat) (T : Nat → Tm) (K U H r : Nat → Nat) (vr : List (Int × Nat)) (ps : List (Nat × Nat)) (E : List (Tm × Tm)) : Prop where
  hd : ∀ n, n < N → H n < N ∧ H (H n) = H n
  up : ∀ n, n < N → U n < N ∧ H (U n) = H n ∧ (H n = n → U n = n)
  rank : ∀ n, n < N → H n ≠ n → r (U n) < r n
  low : ∀ n, n < N → (T n).f ≤ (T (H n)).f
  kid : ∀ n, n < N → K n ≠ 0 → ¬ (T n).f < 0 ∧ ∀ i, i < (T n).l.length → K n + i < N ∧ (T n).l[i]? = some (T (K n + i))
  vrs : ∀ n, n < N → (T n).f < 0 → ∃ m, lookV vr (-1 - (T n).f) = some m ∧ H n = H m
  vrt : ∀ v m, lookV vr v = some m → m < N ∧ (T m).f = -1 - v
  cls : ∀ n, n < N → ¬ (T n).f < 0 → H n ≠ n → (T (H n)).f = (T n).f ∧ (T (H n)).l.length = (T n).l.length ∧ ((T n).l.length ≠ 0 → K n ≠ 0 ∧ K (H n) ≠ 0) ∧ ∀ i, i < (T n).l.length → Con N H ps (K n + i) (K (H n) + i)
  pss : ∀ p ∈ ps, p.1 < N ∧ p.2 < N
  pair : ∀ p ∈ E, ∃ n m, n < N ∧ m < N ∧ T n = p.1 ∧ T m = p.2 ∧ Con N H ps n m
  sound : ∀ τ, uni τ E → (∀ n, n < N → repT τ (T n) = repT τ (T (H n))) ∧ ∀ p ∈ ps, repT τ (T p.1) = repT τ (T p.2)

section
variable {N : Nat} {T : Nat → Tm} {K U H r : Nat → Nat} {vr : List (Int × Nat)} {ps : List (Nat × Nat)} {E : List (Tm × Tm)}
def upd {α : Type} (f : Nat → α) (n : Nat) (x : α) (m : Nat) : α := if m = n then x else f m
theorem upd_same {α : Type} {f : Nat → α} {n : Nat} {x : α} : upd f n x n = x := if_pos rfl
theorem upd_ne {α : Type} {f : Nat → α} {n m : Nat} {x : α} (h : m ≠ n) : upd f n x m = f m := if_neg h

theorem Cls.nil : Cls 0 T K U H r [] [] [] :=
  ⟨fun n h => by omega, fun n h => by omega, fun n h => by omega, fun n h => by omega, fun n h => by omega, fun n h => by omega, fun v m h => (by cases h), fun n h => by omega, fun p h => (by cases h), fun p h => (by cases h), fun τ _ => ⟨fun n h => by omega, fun p h => (by cases h)⟩⟩

theorem Cls.add (h : Cls N T K U H r vr ps E) {t : Tm} {u : Nat} {vr' : List (Int × Nat)} (hu : u ≤ N) (hb : u < N → t.f < 0 ∧ (T u).f = t.f) (hv1 : ∀ v m, lookV vr v = some m → lookV vr' v = some m) (hv2 : ∀ v m, lookV vr' v = some m → lookV vr v = some m ∨ (m = N ∧ t.f = -1 - v)) (hv3 : t.f < 0 → lookV vr' (-1 - t.f) = some u) :
    Cls (N + 1) (upd T N t) (upd K N 0) (upd U N u) (upd H N (if u = N then N else H u)) (upd r N (if u = N then 0 else r u + 1)) vr' ps E := by
  have hH : ∀ {n}, n < N → upd H N (if u = N then N else H u) n = H n := fun hn => upd_ne (by omega)
  have hT : ∀ {n}, n < N → upd T N t n = T n := fun hn => upd_ne (by omega)
  have hK : ∀ {n}, n < N → upd K N 0 n = K n := fun hn => upd_ne (by omega)
  have hU : ∀ {n}, n < N → upd U N u n = U n := fun hn => upd_ne (by omega)
  have hr : ∀ {n}, n < N → upd r N (if u = N then 0 else r u + 1) n = r n := fun hn => upd_ne (by omega)
  have con : ∀ {x y}, Con N H ps x y → Con (N + 1) (upd H N (if u = N then N else H u)) ps x y := fun hc G g1 g2 => hc G (fun m hm => by have := g1 m (by omega); rw [hH hm] at this; exact this) g2
  have two : ∀ {n}, n < N + 1 → n < N ∨ n = N := fun hn => by omega
  refine ⟨fun n hn => ?_, fun n hn => ?_, fun n hn hne => ?_, fun n hn => ?_, fun n hn hk => ?_, fun n hn hf => ?_, fun v m hl => ?_, fun n hn hf hne => ?_, fun p hp => ?_, fun p hp => ?_, fun τ ht => ?_⟩
  · rcases two hn with hn | rfl
    · have := h.hd n hn
      rw [hH hn, hH this.1]
      exact ⟨by omega, this.2⟩
    · rw [upd_same]
      split
      · exact ⟨by omega, by rw [upd_same]⟩
      · have := h.hd u (by omega)
        rw [upd_ne (by omega)]
        exact ⟨by omega, this.2⟩
  · rcases two hn with hn | rfl
    · have := h.up n hn
      rw [hU hn, hH hn, hH this.1]
      exact ⟨by omega, this.2⟩
    · rw [upd_same, upd_same]
      by_cases e : u = n
      · rw [if_pos e, e, upd_same]
        exact ⟨by omega, by simp, fun _ => rfl⟩
      · rw [if_neg e, upd_ne e]
        refine ⟨by omega, rfl, fun e2 => ?_⟩
        have := (h.hd u (by omega)).1
        omega
  · rcases two hn with hn | rfl
    · rw [hH hn] at hne
      rw [hU hn, hr hn, hr (h.up n hn).1]
      exact h.rank n hn hne
    · rw [upd_same] at hne
      rw [upd_same, upd_same]
      by_cases e : u = n
      · rw [if_pos e] at hne; exact absurd rfl hne
      · rw [if_neg e, upd_ne e]; omega
  · rcases two hn with hn | rfl
    · rw [hH hn, hT hn, hT (h.hd n hn).1]; exact h.low n hn
    · rw [upd_same, upd_same]
      by_cases e : u = n
      · rw [if_pos e, upd_same]; exact Int.le_refl _
      · rw [if_neg e]
        have h1 := h.hd u (by omega)
        have h2 := h.low u (by omega)
        rw [hT h1.1, ← (hb (by omega)).2]
        exact h2
  · rcases two hn with hn | rfl
    · rw [hK hn] at hk ⊢
      rw [hT hn]
      obtain ⟨h1, h2⟩ := h.kid n hn hk
      refine ⟨h1, fun i hi => ?_⟩
      have := h2 i hi
      rw [hT this.1]
      exact ⟨by omega, this.2⟩
    · rw [upd_same] at hk; exact absurd rfl hk
  · rcases two hn with hn | rfl
    · rw [hT hn] at hf ⊢
      obtain ⟨m, h1, h2⟩ := h.vrs n hn hf
      have := (h.vrt _ m h1).1
      exact ⟨m, hv1 _ _ h1, by rw [hH hn, hH this, h2]⟩
    · rw [upd_same] at hf ⊢
      refine ⟨u, hv3 hf, ?_⟩
      rw [upd_same]
      by_cases e : u = n
      · rw [if_pos e, e, upd_same]
      · rw [if_neg e, upd_ne e]
  · rcases hv2 v m hl with h1 | ⟨rfl, h1⟩
    · have := h.vrt v m h1
      rw [hT this.1]
      exact ⟨by omega, this.2⟩
    · rw [upd_same]; exact ⟨by omega, h1⟩
  · rcases two hn with hn | rfl
    · have h1 := (h.hd n hn).1
      rw [hT hn] at hf ⊢
      rw [hH hn] at hne ⊢
      rw [hT h1, hK hn, hK h1]
      obtain ⟨c1, c2, c3, c4⟩ := h.cls n hn hf hne
      exact ⟨c1, c2, c3, fun i hi => con (c4 i hi)⟩
    · rw [upd_same] at hf hne
      by_cases e : u = n
      · rw [if_pos e] at hne; exact absurd rfl hne
      · exact absurd (hb (by omega)).1 hf
  · have := h.pss p hp; exact ⟨by omega, by omega⟩
  · obtain ⟨n, m, h1, h2, h3, h4, h5⟩ := h.pair p hp
    exact ⟨n, m, by omega, by omega, by rw [hT h1]; exact h3, by rw [hT h2]; exact h4, con h5⟩
  · obtain ⟨s1, s2⟩ := h.sound τ ht
    refine ⟨fun n hn => ?_, fun p hp => ?_⟩
    · rcases two hn with hn | rfl
      · rw [hH hn, hT hn, hT (h.hd n hn).1]; exact s1 n hn
      · rw [upd_same, upd_same]
        by_cases e : u = n
        · rw [if_pos e, upd_same]
        · have hu' : u < n := by omega
          rw [if_neg e, hT (h.hd u hu').1, ← s1 u hu']
          obtain ⟨f1, f2⟩ := hb hu'
          rw [repT_var f1, repT_var (by rw [f2]; exact f1), f2]
    · have := h.pss p hp
      rw [hT this.1, hT this.2]
      exact s2 p hp
theorem Cls.setK (h : Cls N T K U H r vr ps E) {n k : Nat} (hn : n < N) (hk : K n = 0) (hf : ¬ (T n).f < 0) (hp : ∀ i, i < (T n).l.length → k + i < N ∧ (T n).l[i]? = some (T (k + i))) : Cls N T (upd K n k) U H r vr ps E := by
  refine ⟨h.hd, h.up, h.rank, h.low, fun m hm h1 => ?_, h.vrs, h.vrt, fun m hm h1 h2 => ?_, h.pss, h.pair, h.sound⟩
  · by_cases e : m = n
    · subst e; rw [upd_same]; exact ⟨hf, hp⟩
    · rw [upd_ne e] at h1 ⊢; exact h.kid m hm h1
  · obtain ⟨c1, c2, c3, c4⟩ := h.cls m hm h1 h2
    refine ⟨c1, c2, fun h3 => ?_, fun i hi => ?_⟩
    · obtain ⟨d1, d2⟩ := c3 h3
      rw [upd_ne (m := m) (fun e => d1 (by rw [e]; exact hk)), upd_ne (m := H m) (fun e => d2 (by rw [e]; exact hk))]
      exact ⟨d1, d2⟩
    · obtain ⟨d1, d2⟩ := c3 (by omega)
      rw [upd_ne (m := m) (fun e => d1 (by rw [e]; exact hk)), upd_ne (m := H m) (fun e => d2 (by rw [e]; exact hk))]
      exact c4 i hi
theorem Cls.halve (h : Cls N T K U H r vr ps E) {n : Nat} (hn : n < N) : Cls N T K (upd U n (U (U n))) H r vr ps E := by
  obtain ⟨u1, u2, u3⟩ := h.up n hn
  obtain ⟨v1, v2, v3⟩ := h.up (U n) u1
  refine ⟨h.hd, fun m hm => ?_, fun m hm h1 => ?_, h.low, h.kid, h.vrs, h.vrt, h.cls, h.pss, h.pair, h.sound⟩
  · by_cases e : m = n
    · subst e
      rw [upd_same]
      exact ⟨v1, by rw [v2, u2], fun e => by rw [u3 e]; exact u3 e⟩
    · rw [upd_ne e]; exact h.up m hm
  · by_cases e : m = n
    · subst e
      rw [upd_same]
      have h2 := h.rank m hm h1
      by_cases e2 : H (U m) = U m
      · rw [v3 e2]; exact h2
      · have := h.rank (U m) u1 e2; omega
    · rw [upd_ne e]; exact h.rank m hm h1
theorem Cls.drop {x y : Nat} (h : Cls N T K U H r vr (ps ++ [(x, y)]) E) (e : H x = H y) : Cls N T K U H r vr ps E := by
  have hxy := h.pss (x, y) (by simp)
  have con : ∀ {p q}, Con N H (ps ++ [(x, y)]) p q → Con N H ps p q := fun hc G g1 g2 => hc G g1 fun p hp => by
    rcases List.mem_append.1 hp with hp | hp
    · exact g2 p hp
    · rw [List.mem_singleton] at hp
      rw [hp]
      show G x = G y
      rw [g1 x hxy.1, g1 y hxy.2, e]
  refine ⟨h.hd, h.up, h.rank, h.low, h.kid, h.vrs, h.vrt, fun n hn h1 h2 => ?_, fun p hp => h.pss p (List.mem_append_left _ hp), fun p hp => ?_, fun τ ht => ⟨(h.sound τ ht).1, fun p hp => (h.sound τ ht).2 p (List.mem_append_left _ hp)⟩⟩
  · obtain ⟨c1, c2, c3, c4⟩ := h.cls n hn h1 h2
    exact ⟨c1, c2, c3, fun i hi => con (c4 i hi)⟩
  · obtain ⟨n, m, h1, h2, h3, h4, h5⟩ := h.pair p hp
    exact ⟨n, m, h1, h2, h3, h4, con h5⟩
theorem Cls.push (h : Cls N T K U H r vr ps E) {n m : Nat} (hn : n < N) (hm : m < N) : Cls N T K U H r vr (ps ++ [(n, m)]) (E ++ [(T n, T m)]) := by
  have con : ∀ {p q}, Con N H ps p q → Con N H (ps ++ [(n, m)]) p q := fun hc G g1 g2 => hc G g1 fun p hp => g2 p (List.mem_append_left _ hp)
  refine ⟨h.hd, h.up, h.rank, h.low, h.kid, h.vrs, h.vrt, fun a ha h1 h2 => ?_, fun p hp => ?_, fun p hp => ?_, fun τ ht => ?_⟩
  · obtain ⟨c1, c2, c3, c4⟩ := h.cls a ha h1 h2
    exact ⟨c1, c2, c3, fun i hi => con (c4 i hi)⟩
  · rcases List.mem_append.1 hp with hp | hp
    · exact h.pss p hp
    · rw [List.mem_singleton] at hp; rw [hp]; exact ⟨hn, hm⟩
  · rcases List.mem_append.1 hp with hp | hp
    · obtain ⟨a, b, h1, h2, h3, h4, h5⟩ := h.pair p hp
      exact ⟨a, b, h1, h2, h3, h4, con h5⟩
    · rw [List.mem_singleton] at hp
      rw [hp]
      exact ⟨n, m, hn, hm, rfl, rfl, fun G _ g2 => g2 (n, m) (by simp)⟩
  · rw [uni_app, uni_one] at ht
    obtain ⟨s1, s2⟩ := h.sound τ ht.1
    refine ⟨s1, fun p hp => ?_⟩
    rcases List.mem_append.1 hp with hp | hp
    · exact s2 p hp
    · rw [List.mem_singleton] at hp; rw [hp]; exact ht.2
theorem Cls.union {x y : Nat} (h : Cls N T K U H r vr (ps ++ [(x, y)]) E) {a b : Nat} (ha : a < N) (hb : b < N) (hha : H a = a) (hhb : H b = b) (hab : a ≠ b) (hxy : (H x = a ∧ H y = b) ∨ (H x = b ∧ H y = a)) (hlow : (T a).f ≤ (T b).f) {qs : List (Nat × Nat)}
    (hs : ¬ (T a).f < 0 → (T b).f = (T a).f ∧ (T b).l.length = (T a).l.length ∧ ((T a).l.length ≠ 0 → K a ≠ 0 ∧ K b ≠ 0) ∧ ∀ i, i < (T a).l.length → (K a + i, K b + i) ∈ qs)
    (hq : ∀ q ∈ qs, ¬ (T a).f < 0 ∧ ∃ i, i < (T a).l.length ∧ q = (K a + i, K b + i)) :
    Cls N T K (upd U a b) (fun m => if H m = a then b else H m) (fun m => if H m = a then r m + r b + 1 else r m) vr (ps ++ qs) E := by
  have hxyN := h.pss (x, y) (by simp)
  obtain ⟨H', hH'⟩ : ∃ H' : Nat → Nat, H' = fun m => if H m = a then b else H m := ⟨_, rfl⟩
  have e1 : ∀ {m}, H m = a → H' m = b := fun e => by rw [hH']; exact if_pos e
  have e2 : ∀ {m}, H m ≠ a → H' m = H m := fun e => by rw [hH']; exact if_neg e
  rw [← hH']
  have hkids : ¬ (T a).f < 0 → ∀ i, i < (T a).l.length → K a + i < N ∧ K b + i < N ∧ (T a).l[i]? = some (T (K a + i)) ∧ (T b).l[i]? = some (T (K b + i)) := fun hf i hi => by
    obtain ⟨_, s2, s3, _⟩ := hs hf
    obtain ⟨k1, k2⟩ := s3 (by omega)
    have p1 := (h.kid a ha k1).2 i hi
    have p2 := (h.kid b hb k2).2 i (by omega)
    exact ⟨p1.1, p2.1, p1.2, p2.2⟩
  -- what respects the new classes respects the old ones
  have resp : ∀ G : Nat → Nat, (∀ m, m < N → G m = G (H' m)) → (∀ p ∈ ps ++ qs, G p.1 = G p.2) → (∀ m, m < N → G m = G (H m)) ∧ ∀ p ∈ ps ++ [(x, y)], G p.1 = G p.2 := fun G g1 g2 => by
    have g3 : ∀ m, m < N → G m = G (H m) := fun m hm => by
      by_cases e : H m = a
      · rw [g1 m hm, e1 e, e, g1 a ha, e1 hha]
      · rw [g1 m hm, e2 e]
    refine ⟨g3, fun p hp => ?_⟩
    rcases List.mem_append.1 hp with hp | hp
    · exact g2 p (List.mem_append_left _ hp)
    · rw [List.mem_singleton] at hp
      rw [hp]
      show G x = G y
      have g4 : G a = G b := by rw [g1 a ha, e1 hha]
      rw [g3 x hxyN.1, g3 y hxyN.2]
      rcases hxy with ⟨c1, c2⟩ | ⟨c1, c2⟩
      · rw [c1, c2, g4]
      · rw [c1, c2, g4]
  have con : ∀ {p q}, Con N H (ps ++ [(x, y)]) p q → Con N H' (ps ++ qs) p q := fun hc G g1 g2 => hc G (resp G g1 g2).1 (resp G g1 g2).2
  have hba : H b ≠ a := by rw [hhb]; exact Ne.symm hab
  refine ⟨fun n hn => ?_, fun n hn => ?_, fun n hn hne => ?_, fun n hn => ?_, h.kid, fun n hn hf => ?_, h.vrt, fun n hn hf hne => ?_, fun p hp => ?_, fun p hp => ?_, fun τ ht => ?_⟩
  · by_cases e : H n = a
    · rw [e1 e, e2 hba]; exact ⟨hb, hhb⟩
    · have := h.hd n hn
      rw [e2 e, e2 (by rw [this.2]; exact e)]; exact this
  · obtain ⟨u1, u2, u3⟩ := h.up n hn
    by_cases e : n = a
    · subst e
      rw [upd_same, e1 hha, e2 hba]
      exact ⟨hb, hhb, fun e => e⟩
    · rw [upd_ne e]
      by_cases e3 : H n = a
      · rw [e1 e3, e1 (by rw [u2]; exact e3)]
        exact ⟨u1, rfl, fun e4 => by rw [← e4, hhb] at e3; exact absurd e3.symm hab⟩
      · rw [e2 e3, e2 (by rw [u2]; exact e3)]
        exact ⟨u1, u2, u3⟩
  · obtain ⟨u1, u2, u3⟩ := h.up n hn
    by_cases e : n = a
    · subst e
      rw [upd_same, if_neg hba, if_pos hha]; omega
    · rw [upd_ne e]
      by_cases e3 : H n = a
      · have := h.rank n hn (by rw [e3]; exact Ne.symm e)
        rw [if_pos e3, if_pos (by rw [u2]; exact e3)]; omega
      · rw [e2 e3] at hne
        rw [if_neg e3, if_neg (by rw [u2]; exact e3)]
        exact h.rank n hn hne
  · have := h.low n hn
    by_cases e : H n = a
    · rw [e1 e]; rw [e] at this; omega
    · rw [e2 e]; exact this
  · obtain ⟨m, h1, h2⟩ := h.vrs n hn hf
    refine ⟨m, h1, ?_⟩
    by_cases e : H n = a
    · rw [e1 e, e1 (by rw [← h2]; exact e)]
    · rw [e2 e, e2 (by rw [← h2]; exact e), h2]
  · by_cases e : H n = a
    · rw [e1 e]
      by_cases e3 : n = a
      · subst e3
        obtain ⟨s1, s2, s3, s4⟩ := hs hf
        exact ⟨s1, s2, s3, fun i hi G g1 g2 => g2 _ (List.mem_append_right _ (s4 i hi))⟩
      · obtain ⟨c1, c2, c3, c4⟩ := h.cls n hn hf (by rw [e]; exact Ne.symm e3)
        rw [e] at c1 c2 c3 c4
        obtain ⟨s1, s2, s3, s4⟩ := hs (by rw [c1]; exact hf)
        refine ⟨by rw [s1, c1], by rw [s2, c2], fun h5 => ⟨(c3 h5).1, (s3 (by rw [c2]; exact h5)).2⟩, fun i hi G g1 g2 => ?_⟩
        rw [con (c4 i hi) G g1 g2]
        exact g2 _ (List.mem_append_right _ (s4 i (by rw [c2]; exact hi)))
    · rw [e2 e] at hne ⊢
      obtain ⟨c1, c2, c3, c4⟩ := h.cls n hn hf hne
      exact ⟨c1, c2, c3, fun i hi => con (c4 i hi)⟩
  · rcases List.mem_append.1 hp with hp | hp
    · exact h.pss p (List.mem_append_left _ hp)
    · obtain ⟨hf, i, hi, e⟩ := hq p hp
      have := hkids hf i hi
      rw [e]
      exact ⟨this.1, this.2.1⟩
  · obtain ⟨n, m, h1, h2, h3, h4, h5⟩ := h.pair p hp
    exact ⟨n, m, h1, h2, h3, h4, con h5⟩
  · obtain ⟨s1, s2⟩ := h.sound τ ht
    have hxy2 : repT τ (T x) = repT τ (T y) := s2 (x, y) (by simp)
    have hab2 : repT τ (T a) = repT τ (T b) := by
      rw [s1 x hxyN.1, s1 y hxyN.2] at hxy2
      rcases hxy with ⟨c1, c2⟩ | ⟨c1, c2⟩
      · rw [c1, c2] at hxy2; exact hxy2
      · rw [c1, c2] at hxy2; exact hxy2.symm
    refine ⟨fun n hn => ?_, fun p hp => ?_⟩
    · by_cases e : H n = a
      · rw [e1 e, s1 n hn, e, hab2]
      · rw [e2 e]; exact s1 n hn
    · rcases List.mem_append.1 hp with hp | hp
      · exact s2 p (List.mem_append_left _ hp)
      · obtain ⟨hf, i, hi, e⟩ := hq p hp
        obtain ⟨_, _, k3, k4⟩ := hkids hf i hi
        rw [e]
        obtain ⟨s3, s4, _⟩ := hs hf
        rw [repT_sym hf, repT_sym (by rw [s3]; exact hf)] at hab2
        have := congrArg (fun t : Tm => t.l[i]?) hab2
        simp only [List.getElem?_map, k3, k4, Option.map_some, Option.some.injEq] at this
        exact this
theorem Cls.clash {x y : Nat} (h : Cls N T K U H r vr (ps ++ [(x, y)]) E) {a b : Nat} (hxy : (H x = a ∧ H y = b) ∨ (H x = b ∧ H y = a)) (hfa : ¬ (T a).f < 0) (hfb : ¬ (T b).f < 0) (hc : (T a).f ≠ (T b).f ∨ (T a).l.length ≠ (T b).l.length) (τ : Int → Tm) : ¬ uni τ E := by
  intro ht
  have hxyN := h.pss (x, y) (by simp)
  obtain ⟨s1, s2⟩ := h.sound τ ht
  have hxy2 : repT τ (T x) = repT τ (T y) := s2 (x, y) (by simp)
  have hab2 : repT τ (T a) = repT τ (T b) := by
    rw [s1 x hxyN.1, s1 y hxyN.2] at hxy2
    rcases hxy with ⟨c1, c2⟩ | ⟨c1, c2⟩
    · rw [c1, c2] at hxy2; exact hxy2
    · rw [c1, c2] at hxy2; exact hxy2.symm
  rw [repT_sym hfa, repT_sym hfb] at hab2
  have h4 := congrArg Tm.f hab2
  have h5 := congrArg (fun t : Tm => t.l.length) hab2
  simp only [List.length_map] at h4 h5
  rcases hc with hc | hc
  · exact hc h4
  · exact hc h5
theorem Cls.joined (h : Cls N T K U H r vr [] E) (hk : ∀ n, n < N → ¬ (T n).f < 0 → (T n).l.length ≠ 0 → K n ≠ 0) : Joined N T H K E := by
  have con : ∀ {p q}, Con N H [] p q → H p = H q := fun hc => hc H (fun m hm => (h.hd m hm).2.symm) (fun p hp => by cases hp)
  refine ⟨h.hd, h.low, fun n hn hf i p hp => ?_, fun n hn hf => ?_, fun n m hn hm hf e => ?_, fun p hp => ?_, fun τ ht => (h.sound τ ht).1⟩
  · have hi : i < (T n).l.length := by
      rcases Nat.lt_or_ge i (T n).l.length with h1 | h1
      · exact h1
      · rw [List.getElem?_eq_none h1] at hp; cases hp
    obtain ⟨k1, k2⟩ := (h.kid n hn (hk n hn hf (by omega))).2 i hi
    rw [k2] at hp
    exact ⟨k1, Option.some.inj hp⟩
  · by_cases e : H n = n
    · rw [e]; exact ⟨rfl, rfl, fun _ _ => rfl⟩
    · obtain ⟨c1, c2, c3, c4⟩ := h.cls n hn hf e
      exact ⟨c1, c2, fun i hi => con (c4 i hi)⟩
  · obtain ⟨a, a1, a2⟩ := h.vrs n hn hf
    obtain ⟨b, b1, b2⟩ := h.vrs m hm (by rw [← e]; exact hf)
    rw [← e, a1] at b1
    rw [a2, b2, Option.some.inj b1]
  · obtain ⟨n, m, h1, h2, h3, h4, h5⟩ := h.pair p hp
    exact ⟨n, m, h1, h2, h3, h4, con h5⟩
end
theorem Cls.congr {N : Nat} {T T' : Nat → Tm} {K K' U U' H H' r : Nat → Nat} {vr ps E} (h : Cls N T K U H r vr ps E) (hT : ∀ n, n < N → T' n = T n) (hK : ∀ n, n < N → K' n = K n) (hU : ∀ n, n < N → U' n = U n) (hH : ∀ n, n < N → H' n = H n) : Cls N T' K' U' H' r vr ps E := by
  have con : ∀ {x y}, Con N H ps x y → Con N H' ps x y := fun hc G g1 g2 => hc G (fun m hm => by rw [g1 m hm, hH m hm]) g2
  refine ⟨fun n hn => ?_, fun n hn => ?_, fun n hn hne => ?_, fun n hn => ?_, fun n hn hk => ?_, fun n hn hf => ?_, fun v m hl => ?_, fun n hn hf hne => ?_, h.pss, fun p hp => ?_, fun τ ht => ?_⟩
  · have := h.hd n hn; rw [hH n hn, hH _ this.1]; exact this
  · have := h.up n hn; rw [hU n hn, hH n hn, hH _ this.1]; exact this
  · rw [hH n hn] at hne; rw [hU n hn]; exact h.rank n hn hne
  · rw [hH n hn, hT n hn, hT _ (h.hd n hn).1]; exact h.low n hn
  · rw [hK n hn] at hk ⊢
    rw [hT n hn]
    obtain ⟨h1, h2⟩ := h.kid n hn hk
    refine ⟨h1, fun i hi => ?_⟩
    have := h2 i hi
    rw [hT _ this.1]; exact this
  · rw [hT n hn] at hf ⊢
    obtain ⟨m, h1, h2⟩ := h.vrs n hn hf
    exact ⟨m, h1, by rw [hH n hn, hH m (h.vrt _ m h1).1]; exact h2⟩
  · have := h.vrt v m hl; rw [hT m this.1]; exact this
  · have h1 := (h.hd n hn).1
    rw [hT n hn] at hf ⊢
    rw [hH n hn] at hne ⊢
    rw [hT _ h1, hK n hn, hK _ h1]
    obtain ⟨c1, c2, c3, c4⟩ := h.cls n hn hf hne
    exact ⟨c1, c2, c3, fun i hi => con (c4 i hi)⟩
  · obtain ⟨n, m, h1, h2, h3, h4, h5⟩ := h.pair p hp
    exact ⟨n, m, h1, h2, by rw [hT n h1]; exact h3, by rw [hT m h2]; exact h4, con h5⟩
  · obtain ⟨s1, s2⟩ := h.sound τ ht
    refine ⟨fun n hn => ?_, fun p hp => ?_⟩
    · rw [hH n hn, hT n hn, hT _ (h.hd n hn).1]; exact s1 n hn
    · have := h.pss p hp
      rw [hT _ this.1, hT _ this.2]; exact s2 p hp

structure Nd where
  t : Tm
  fi : Nat
  up : Nat
  us : Int
def ndD : Nd := ⟨⟨0, []⟩, 0, 0, 0⟩
def nT (ns : List Nd) (n : Nat) : Tm := (ns.getD n ndD).t
def nK (ns : List Nd) (n : Nat) : Nat := (ns.getD n ndD).fi
def nU (ns : List Nd) (n : Nat) : Nat := (ns.getD n ndD).up
def nS (ns : List Nd) (n : Nat) : Int := (ns.getD n ndD).us
def setFi (ns : List Nd) (n k : Nat) : List Nd := ns.set n { ns.getD n ndD with fi := k }
def setUp (ns : List Nd) (n k : Nat) : List Nd := ns.set n { ns.getD n ndD with up := k }
structure Cl where
  ns : List Nd
  vr : List (Int × Nat)
  ps : List (Nat × Nat)
def ClsC (c : Cl) (H r : Nat → Nat) (E : List (Tm × Tm)) : Prop := Cls c.ns.length (nT c.ns) (nK c.ns) (nU c.ns) H r c.vr c.ps E

theorem getD_lt {ns : List Nd} {x : Nd} {n : Nat} (h : n < ns.length) : (ns ++ [x]).getD n ndD = ns.getD n ndD := by
  rw [List.getD_eq_getElem?_getD, List.getD_eq_getElem?_getD, List.getElem?_append_left h]
theorem getD_end {ns : List Nd} {x : Nd} : (ns ++ [x]).getD ns.length ndD = x := by
  rw [List.getD_eq_getElem?_getD, List.getElem?_append_right (Nat.le_refl _), Nat.sub_self]; rfl
theorem getDn_set {ns : List Nd} {x : Nd} {n m : Nat} (h : n < ns.length) : (ns.set n x).getD m ndD = if m = n then x else ns.getD m ndD := by
  rw [List.getD_eq_getElem?_getD, List.getElem?_set]
  by_cases e : m = n
  · subst e; rw [if_pos rfl, if_pos h, if_pos rfl]; rfl
  · rw [if_neg (Ne.symm e), if_neg e, List.getD_eq_getElem?_getD]
theorem upd_snoc {α : Type} (g : Nd → α) {ns : List Nd} {x : Nd} {n : Nat} (hn : n < ns.length + 1) : g ((ns ++ [x]).getD n ndD) = upd (fun m => g (ns.getD m ndD)) ns.length (g x) n := by
  rcases Nat.lt_or_ge n ns.length with h | h
  · rw [getD_lt h, upd_ne (by omega)]
  · have : n = ns.length := by omega
    rw [this, getD_end, upd_same]

def addU (c : Cl) (t : Tm) : Nat := if t.f < 0 then (lookV c.vr (-1 - t.f)).getD c.ns.length else c.ns.length
def addV (c : Cl) (t : Tm) : List (Int × Nat) := if t.f < 0 then (match lookV c.vr (-1 - t.f) with | some _ => c.vr | none => c.vr ++ [(-1 - t.f, c.ns.length)]) else c.vr
def addC (c : Cl) (t : Tm) : Cl := ⟨c.ns ++ [⟨t, 0, addU c t, 0⟩], addV c t, c.ps⟩
theorem addC_len (c : Cl) (t : Tm) : (addC c t).ns.length = c.ns.length + 1 := by simp [addC]
theorem addC_at (c : Cl) (t : Tm) {n : Nat} (h : n < c.ns.length) : (addC c t).ns.getD n ndD = c.ns.getD n ndD := getD_lt h
theorem ClsC.add {c : Cl} {H r : Nat → Nat} {E} (h : ClsC c H r E) (t : Tm) : ∃ H' r', ClsC (addC c t) H' r' E ∧ (∀ n, n < c.ns.length → H' n = H n) ∧ (¬ t.f < 0 → H' c.ns.length = c.ns.length) := by
  have hx : addU c t ≤ c.ns.length ∧ (addU c t < c.ns.length → t.f < 0 ∧ (nT c.ns (addU c t)).f = t.f) ∧ (t.f < 0 → lookV (addV c t) (-1 - t.f) = some (addU c t)) ∧ (∀ v m, lookV c.vr v = some m → lookV (addV c t) v = some m) ∧ (∀ v m, lookV (addV c t) v = some m → lookV c.vr v = some m ∨ (m = c.ns.length ∧ t.f = -1 - v)) := by
    unfold addU addV
    by_cases hf : t.f < 0
    · rw [if_pos hf, if_pos hf]
      cases hl : lookV c.vr (-1 - t.f) with
      | some m =>
        have := h.vrt _ m hl
        refine ⟨by simpa using Nat.le_of_lt this.1, fun _ => ⟨hf, ?_⟩, fun _ => hl, fun v m h => h, fun v m h => .inl h⟩
        show (nT c.ns m).f = t.f
        rw [this.2]; omega
      | none =>
        refine ⟨Nat.le_refl _, fun h => absurd h (Nat.lt_irrefl _), fun _ => ?_, fun v m h => ?_, fun v m h => ?_⟩
        · show lookV (c.vr ++ _) _ = _
          rw [lookV_snoc, hl, if_pos rfl]; rfl
        · show lookV (c.vr ++ _) _ = _
          rw [lookV_snoc, h]; rfl
        · have h : lookV (c.vr ++ _) _ = _ := h
          rw [lookV_snoc] at h
          cases hv : lookV c.vr v with
          | some q => rw [hv] at h; exact .inl h
          | none =>
            rw [hv] at h
            have h : (if -1 - t.f = v then some c.ns.length else none) = some m := h
            split at h
            · rename_i e
              cases h
              exact .inr ⟨rfl, by omega⟩
            · cases h
    · rw [if_neg hf, if_neg hf]
      exact ⟨Nat.le_refl _, fun h => absurd h (Nat.lt_irrefl _), fun h => absurd h hf, fun v m h => h, fun v m h => .inl h⟩
  obtain ⟨x1, x2, x3, x4, x5⟩ := hx
  have h1 := Cls.add h x1 x2 x4 x5 x3
  refine ⟨upd H c.ns.length (if addU c t = c.ns.length then c.ns.length else H (addU c t)), upd r c.ns.length (if addU c t = c.ns.length then 0 else r (addU c t) + 1), ?_, fun n hn => upd_ne (by omega), fun hf => ?_⟩
  · unfold ClsC
    rw [addC_len]
    exact h1.congr (fun n hn => upd_snoc Nd.t hn) (fun n hn => upd_snoc Nd.fi hn) (fun n hn => upd_snoc Nd.up hn) fun n hn => rfl
  · rw [upd_same, if_pos]
    unfold addU
    rw [if_neg hf]
def addAll (c : Cl) (l : List Tm) : Cl := l.foldl addC c
theorem addAll_len (l : List Tm) : ∀ c : Cl, (addAll c l).ns.length = c.ns.length + l.length := by
  induction l with
  | nil => exact fun c => rfl
  | cons t l ih => intro c; rw [show addAll c (t :: l) = addAll (addC c t) l from rfl, ih, addC_len, List.length_cons]; omega
theorem addAll_at (l : List Tm) : ∀ (c : Cl) {n : Nat}, n < c.ns.length → (addAll c l).ns.getD n ndD = c.ns.getD n ndD := by
  induction l with
  | nil => exact fun c n _ => rfl
  | cons t l ih =>
    intro c n hn
    rw [show addAll c (t :: l) = addAll (addC c t) l from rfl, ih _ (by rw [addC_len]; omega), addC_at c t hn]
theorem addAll_ps (l : List Tm) : ∀ (c : Cl), (addAll c l).ps = c.ps := by
  induction l with
  | nil => exact fun c => rfl
  | cons t l ih => intro c; exact ih _
theorem addAll_new (l : List Tm) : ∀ (c : Cl) {i : Nat}, i < l.length → l[i]? = some (nT (addAll c l).ns (c.ns.length + i)) ∧ nK (addAll c l).ns (c.ns.length + i) = 0 := by
  induction l with
  | nil => intro c i hi; simp at hi
  | cons t l ih =>
    intro c i hi
    rw [show addAll c (t :: l) = addAll (addC c t) l from rfl]
    cases i with
    | zero =>
      unfold nT nK
      rw [Nat.add_zero, addAll_at l _ (by rw [addC_len]; omega)]
      unfold addC
      rw [getD_end]
      exact ⟨rfl, rfl⟩
    | succ i =>
      have := ih (addC c t) (i := i) (by simpa using hi)
      rw [addC_len] at this
      rw [show c.ns.length + (i + 1) = c.ns.length + 1 + i by omega]
      exact ⟨by rw [List.getElem?_cons_succ]; exact this.1, this.2⟩
theorem ClsC.addAll (l : List Tm) : ∀ {c : Cl} {H r : Nat → Nat} {E}, ClsC c H r E → ∃ H' r', ClsC (addAll c l) H' r' E ∧ (∀ n, n < c.ns.length → H' n = H n) := by
  induction l with
  | nil => exact fun {c H r E} h => ⟨H, r, h, fun n _ => rfl⟩
  | cons t l ih =>
    intro c H r E h
    obtain ⟨H1, r1, g1, g2, _⟩ := h.add t
    obtain ⟨H2, r2, k1, k2⟩ := ih g1
    exact ⟨H2, r2, k1, fun n hn => by rw [k2 n (by rw [addC_len]; omega), g2 n hn]⟩
def Cl.setFi (c : Cl) (n k : Nat) : Cl := ⟨Go.Proofs.YteegmcfobgpemaaGreat.setFi c.ns n k, c.vr, c.ps⟩
theorem addC_setFi (c : Cl) (t : Tm) {n k : Nat} (hn : n < c.ns.length) : addC (c.setFi n k) t = (addC c t).setFi n k := by
  unfold addC Cl.setFi addU addV setFi
  simp only [List.length_set]
  congr 1
  rw [List.set_append_left _ _ hn, getD_lt hn]
theorem addAll_setFi (l : List Tm) : ∀ (c : Cl) {n k : Nat}, n < c.ns.length → Go.Proofs.YteegmcfobgpemaaGreat.addAll (c.setFi n k) l = (Go.Proofs.YteegmcfobgpemaaGreat.addAll c l).setFi n k := by
  induction l with
  | nil => exact fun c n k _ => rfl
  | cons t l ih =>
    intro c n k hn
    show Go.Proofs.YteegmcfobgpemaaGreat.addAll (addC (c.setFi n k) t) l = _
    rw [addC_setFi c t hn, ih _ (by rw [addC_len]; omega)]
    rfl
theorem getD_setFi {ns : List Nd} {n k m : Nat} (h : n < ns.length) : (setFi ns n k).getD m ndD = if m = n then { ns.getD n ndD with fi := k } else ns.getD m ndD := getDn_set h
theorem getD_setUp {ns : List Nd} {n k m : Nat} (h : n < ns.length) : (setUp ns n k).getD m ndD = if m = n then { ns.getD n ndD with up := k } else ns.getD m ndD := getDn_set h
theorem nT_setFi {ns : List Nd} {n k m : Nat} (h : n < ns.length) : nT (setFi ns n k) m = nT ns m := by
  unfold nT; rw [getD_setFi h]; split
  · rename_i e; rw [e]
  · rfl
theorem nU_setFi {ns : List Nd} {n k m : Nat} (h : n < ns.length) : nU (setFi ns n k) m = nU ns m := by
  unfold nU; rw [getD_setFi h]; split
  · rename_i e; rw [e]
  · rfl
theorem nK_setFi {ns : List Nd} {n k m : Nat} (h : n < ns.length) : nK (setFi ns n k) m = upd (nK ns) n k m := by
  unfold nK upd; rw [getD_setFi h]; split <;> rfl
theorem nT_setUp {ns : List Nd} {n k m : Nat} (h : n < ns.length) : nT (setUp ns n k) m = nT ns m := by
  unfold nT; rw [getD_setUp h]; split
  · rename_i e; rw [e]
  · rfl
theorem nK_setUp {ns : List Nd} {n k m : Nat} (h : n < ns.length) : nK (setUp ns n k) m = nK ns m := by
  unfold nK; rw [getD_setUp h]; split
  · rename_i e; rw [e]
  · rfl
theorem nS_setUp {ns : List Nd} {n k m : Nat} (h : n < ns.length) : nS (setUp ns n k) m = nS ns m := by
  unfold nS; rw [getD_setUp h]; split
  · rename_i e; rw [e]
  · rfl
theorem nU_setUp {ns : List Nd} {n k m : Nat} (h : n < ns.length) : nU (setUp ns n k) m = upd (nU ns) n k m := by
  unfold nU upd; rw [getD_setUp h]; split <;> rfl
theorem setUp_len {ns : List Nd} {n k : Nat} : (setUp ns n k).length = ns.length := List.length_set
theorem setFi_len {ns : List Nd} {n k : Nat} : (setFi ns n k).length = ns.length := List.length_set

def pC (c : Cl) (n : Nat) : Cl × Nat × Nat :=
  if (nT c.ns n).f < 0 ∨ (nT c.ns n).l.length = 0 then (c, 0, 0)
  else if nK c.ns n = 0 then (Go.Proofs.YteegmcfobgpemaaGreat.addAll (c.setFi n c.ns.length) (nT c.ns n).l, c.ns.length, c.ns.length + (nT c.ns n).l.length)
  else (c, nK c.ns n, nK c.ns n + (nT c.ns n).l.length)
structure Grew (c c' : Cl) (H H' : Nat → Nat) : Prop where
  len : c.ns.length ≤ c'.ns.length
  tm : ∀ m, m < c.ns.length → nT c'.ns m = nT c.ns m
  kd : ∀ m, m < c.ns.length → nK c.ns m ≠ 0 → nK c'.ns m = nK c.ns m
  us : ∀ m, m < c.ns.length → nS c'.ns m = nS c.ns m
  hd : ∀ m, m < c.ns.length → H' m = H m
  ps : c'.ps = c.ps
theorem Grew.refl (c : Cl) (H : Nat → Nat) : Grew c c H H := ⟨Nat.le_refl _, fun _ _ => rfl, fun _ _ _ => rfl, fun _ _ => rfl, fun _ _ => rfl, rfl⟩
theorem ClsC.parts {c : Cl} {H r : Nat → Nat} {E} (h : ClsC c H r E) {n : Nat} (hn : n < c.ns.length) : ∃ H' r', ClsC (pC c n).1 H' r' E ∧ Grew c (pC c n).1 H H' ∧ ((nT c.ns n).f < 0 ∨ (nT c.ns n).l.length = 0 → (pC c n).2 = (0, 0)) ∧ (¬ ((nT c.ns n).f < 0 ∨ (nT c.ns n).l.length = 0) → nK (pC c n).1.ns n ≠ 0 ∧ (pC c n).2 = (nK (pC c n).1.ns n, nK (pC c n).1.ns n + (nT c.ns n).l.length)) := by
  unfold pC
  split
  · rename_i hv
    exact ⟨H, r, h, Grew.refl c H, fun _ => rfl, fun hc => absurd hv hc⟩
  · rename_i hv
    split
    · rename_i hk
      obtain ⟨H1, r1, g1, g2⟩ := ClsC.addAll (nT c.ns n).l h
      rw [addAll_setFi _ c hn]
      obtain ⟨l, hl⟩ : ∃ l, l = (nT c.ns n).l := ⟨_, rfl⟩
      rw [← hl] at g1 hv ⊢
      have hlen := addAll_len l c
      have hn' : n < (Go.Proofs.YteegmcfobgpemaaGreat.addAll c l).ns.length := by omega
      have ht : ∀ m, m < c.ns.length → nT (Go.Proofs.YteegmcfobgpemaaGreat.addAll c l).ns m = nT c.ns m := fun m hm => by unfold nT; rw [addAll_at l c hm]
      have hkk : ∀ m, m < c.ns.length → nK (Go.Proofs.YteegmcfobgpemaaGreat.addAll c l).ns m = nK c.ns m := fun m hm => by unfold nK; rw [addAll_at l c hm]
      have hss : ∀ m, m < c.ns.length → nS (Go.Proofs.YteegmcfobgpemaaGreat.addAll c l).ns m = nS c.ns m := fun m hm => by unfold nS; rw [addAll_at l c hm]
      have hfs : ¬ (nT c.ns n).f < 0 := fun e => hv (.inl e)
      have g3 : Cls _ _ (upd (nK (Go.Proofs.YteegmcfobgpemaaGreat.addAll c l).ns) n c.ns.length) _ _ _ _ _ _ := Cls.setK g1 hn' (by rw [hkk n hn]; exact hk) (by rw [ht n hn]; exact hfs) fun i hi => by
        rw [ht n hn, ← hl] at hi ⊢
        exact ⟨by omega, (addAll_new l c hi).1⟩
      refine ⟨H1, r1, ?_, ⟨?_, fun m hm => ?_, fun m hm hk2 => ?_, fun m hm => ?_, g2, addAll_ps l c⟩, fun e => absurd e hv, fun _ => ?_⟩
      · unfold ClsC
        show Cls (setFi _ _ _).length (nT (setFi _ _ _)) (nK (setFi _ _ _)) (nU (setFi _ _ _)) _ _ _ _ _
        rw [setFi_len]
        exact g3.congr (fun m _ => nT_setFi hn') (fun m _ => nK_setFi hn') (fun m _ => nU_setFi hn') fun m _ => rfl
      · show _ ≤ (setFi _ _ _).length
        rw [setFi_len]; omega
      · show nT (setFi _ _ _) m = _
        rw [nT_setFi hn', ht m hm]
      · show nK (setFi _ _ _) m = _
        rw [nK_setFi hn', upd_ne (fun e => hk2 (by rw [e]; exact hk)), hkk m hm]
      · show nS (setFi _ _ _) m = _
        unfold nS
        rw [getD_setFi hn', ← show nS (Go.Proofs.YteegmcfobgpemaaGreat.addAll c l).ns m = (c.ns.getD m ndD).us from hss m hm]
        split
        · rename_i e; rw [e]; rfl
        · rfl
      · have : nK (setFi (Go.Proofs.YteegmcfobgpemaaGreat.addAll c l).ns n c.ns.length) n = c.ns.length := by rw [nK_setFi hn', upd_same]
        show nK (setFi _ _ _) n ≠ 0 ∧ (c.ns.length, c.ns.length + l.length) = (nK (setFi _ _ _) n, nK (setFi _ _ _) n + l.length)
        rw [this]
        exact ⟨by omega, rfl⟩
    · rename_i hk
      exact ⟨H, r, h, Grew.refl c H, fun e => absurd e hv, fun _ => ⟨hk, rfl⟩⟩

def headC : Nat → List Nd → Nat → Option (List Nd × Nat)
  | 0, _, _ => none
  | k + 1, ns, n => if nU ns n = n then some (ns, n) else headC k (setUp ns n (nU ns (nU ns n))) (nU (setUp ns n (nU ns (nU ns n))) n)
theorem headC_succ : ∀ (k : Nat) (ns : List Nd) (n : Nat) (r), headC k ns n = some r → headC (k + 1) ns n = some r
  | 0, _, _, _, e => by cases e
  | k + 1, ns, n, r, e => by
    rw [headC] at e ⊢
    split
    · rename_i h; rw [if_pos h] at e; exact e
    · rename_i h; rw [if_neg h] at e; exact headC_succ k _ _ _ e
theorem headC_le {k m : Nat} (h : k ≤ m) {ns : List Nd} {n : Nat} {r} (e : headC k ns n = some r) : headC m ns n = some r := by
  induction h with
  | refl => exact e
  | step _ ih => exact headC_succ _ _ _ _ ih
theorem ClsC.head {vr ps} {H r : Nat → Nat} {E} : ∀ (k : Nat) {ns : List Nd} {n : Nat}, ClsC ⟨ns, vr, ps⟩ H r E → n < ns.length → r n < k → ∃ ns', headC k ns n = some (ns', H n) ∧ ClsC ⟨ns', vr, ps⟩ H r E ∧ ns'.length = ns.length ∧ (∀ m, nT ns' m = nT ns m) ∧ (∀ m, nK ns' m = nK ns m) ∧ ∀ m, nS ns' m = nS ns m
  | 0, ns, n, h, hn, hr => by omega
  | k + 1, ns, n, h, hn, hr => by
    obtain ⟨u1, u2, u3⟩ := h.up n hn
    rw [headC]
    by_cases e : nU ns n = n
    · rw [if_pos e]
      have hh : H n = n := Decidable.byContradiction fun hne => by
        have h1 : r (nU ns n) < r n := h.rank n hn hne
        rw [e] at h1; omega
      exact ⟨ns, by rw [hh], h, rfl, fun _ => rfl, fun _ => rfl, fun _ => rfl⟩
    · rw [if_neg e]
      have hne : H n ≠ n := fun e2 => e (u3 e2)
      have r1 : r (nU ns n) < r n := h.rank n hn hne
      obtain ⟨v1, v2, v3⟩ := h.up (nU ns n) u1
      have u1' : nU ns n < ns.length := u1
      have v1' : nU ns (nU ns n) < ns.length := v1
      have hU : nU (setUp ns n (nU ns (nU ns n))) n = nU ns (nU ns n) := by rw [nU_setUp hn, upd_same]
      have hc : ClsC ⟨setUp ns n (nU ns (nU ns n)), vr, ps⟩ H r E := by
        unfold ClsC
        show Cls (setUp _ _ _).length _ _ _ _ _ _ _ _
        rw [setUp_len]
        exact (Cls.halve h hn).congr (fun m _ => nT_setUp hn) (fun m _ => nK_setUp hn) (fun m _ => nU_setUp hn) fun m _ => rfl
      have r2 : r (nU ns (nU ns n)) ≤ r (nU ns n) := by
        by_cases e2 : H (nU ns n) = nU ns n
        · rw [show nU ns (nU ns n) = nU ns n from v3 e2]; exact Nat.le_refl _
        · exact Nat.le_of_lt (h.rank _ u1 e2)
      rw [hU]
      obtain ⟨ns', g1, g2, g3, g4, g5, g6⟩ := ClsC.head k hc (n := nU ns (nU ns n)) (by rw [setUp_len]; exact v1') (by omega)
      refine ⟨ns', ?_, g2, by rw [g3, setUp_len], fun m => by rw [g4, nT_setUp hn], fun m => by rw [g5, nK_setUp hn], fun m => by rw [g6, nS_setUp hn]⟩
      rw [g1, show H (nU ns (nU ns n)) = H n from v2.trans u2]
def sumTo (f : Nat → Nat) : Nat → Nat
  | 0 => 0
  | n + 1 => sumTo f n + f n
theorem sumTo_congr {f g : Nat → Nat} : ∀ {N : Nat}, (∀ n, n < N → f n = g n) → sumTo f N = sumTo g N
  | 0, _ => rfl
  | N + 1, h => by rw [sumTo, sumTo, sumTo_congr fun n hn => h n (by omega), h N (by omega)]
theorem sumTo_upd {f : Nat → Nat} {n x : Nat} : ∀ {N : Nat}, n < N → sumTo (upd f n x) N + f n = sumTo f N + x
  | 0, h => by omega
  | N + 1, h => by
    rw [sumTo, sumTo]
    by_cases e : n = N
    · subst e
      rw [upd_same, sumTo_congr (g := f) fun m hm => upd_ne (by omega)]; omega
    · rw [upd_ne (Ne.symm e)]
      have := sumTo_upd (f := f) (n := n) (x := x) (N := N) (by omega)
      omega
def wgt (ns : List Nd) (n : Nat) : Nat := if nK ns n ≠ 0 then (nT ns n).l.length else 2 * (nT ns n).size - 1
def hw (ns : List Nd) (H : Nat → Nat) (n : Nat) : Nat := if H n = n then wgt ns n else 0
theorem hw_same {ns ns' : List Nd} {H H' : Nat → Nat} {n : Nat} (h1 : nT ns' n = nT ns n) (h2 : nK ns' n = nK ns n) (h3 : H' n = H n) : hw ns' H' n = hw ns H n := by
  unfold hw wgt; rw [h1, h2, h3]
theorem mea_add (c : Cl) (t : Tm) {H H' : Nat → Nat} (hH : ∀ n, n < c.ns.length → H' n = H n) : sumTo (hw (addC c t).ns H') (c.ns.length + 1) ≤ sumTo (hw c.ns H) c.ns.length + (2 * t.size - 1) := by
  rw [sumTo, sumTo_congr (g := hw c.ns H) fun n hn => hw_same (by unfold nT; rw [addC_at c t hn]) (by unfold nK; rw [addC_at c t hn]) (hH n hn)]
  have h1 : nT (addC c t).ns c.ns.length = t := by unfold nT addC; rw [getD_end]
  have h2 : nK (addC c t).ns c.ns.length = 0 := by unfold nK addC; rw [getD_end]
  have : hw (addC c t).ns H' c.ns.length ≤ 2 * t.size - 1 := by
    unfold hw wgt
    rw [h1, h2]
    split
    · rw [if_neg (by simp)]; exact Nat.le_refl _
    · exact Nat.zero_le _
  omega
def szs (l : List Tm) : Nat := (l.map fun t => 2 * t.size - 1).sum
theorem szs_eq (l : List Tm) : szs l + l.length = 2 * (l.map Tm.size).sum := by
  unfold szs
  induction l with
  | nil => rfl
  | cons t l ih =>
    rw [List.map_cons, List.map_cons, List.sum_cons, List.sum_cons, List.length_cons]
    have := t.size_pos
    omega
theorem mea_addAll (l : List Tm) : ∀ (c : Cl) {H H' : Nat → Nat}, (∀ n, n < c.ns.length → H' n = H n) → sumTo (hw (addAll c l).ns H') (c.ns.length + l.length) ≤ sumTo (hw c.ns H) c.ns.length + szs l := by
  induction l with
  | nil =>
    intro c H H' hH
    rw [List.length_nil, Nat.add_zero]
    have : sumTo (hw (addAll c []).ns H') c.ns.length = sumTo (hw c.ns H) c.ns.length := sumTo_congr fun n hn => hw_same rfl rfl (hH n hn)
    rw [this]
    exact Nat.le_add_right _ _
  | cons t l ih =>
    intro c H H' hH
    have h1 := mea_add c t hH
    have h2 := ih (addC c t) (H := H') (H' := H') fun _ _ => rfl
    rw [addC_len] at h2
    rw [show addAll c (t :: l) = addAll (addC c t) l from rfl, List.length_cons, show c.ns.length + (l.length + 1) = c.ns.length + 1 + l.length by omega]
    have h3 : szs (t :: l) = (2 * t.size - 1) + szs l := by unfold szs; rw [List.map_cons, List.sum_cons]
    omega
theorem mea_parts (c : Cl) {n : Nat} (hn : n < c.ns.length) {H H' : Nat → Nat} (hh : H n = n) (hH : ∀ n, n < c.ns.length → H' n = H n) : sumTo (hw (pC c n).1.ns H') (pC c n).1.ns.length ≤ sumTo (hw c.ns H) c.ns.length := by
  have triv : sumTo (hw c.ns H') c.ns.length ≤ sumTo (hw c.ns H) c.ns.length := by
    rw [sumTo_congr (g := hw c.ns H) fun n hn => hw_same rfl rfl (hH n hn)]; exact Nat.le_refl _
  unfold pC
  split
  · exact triv
  · rename_i hv
    split
    · rename_i hk
      rw [addAll_setFi _ c hn]
      obtain ⟨l, hl⟩ : ∃ l, l = (nT c.ns n).l := ⟨_, rfl⟩
      rw [← hl]
      have hlen := addAll_len l c
      have hn' : n < (addAll c l).ns.length := by omega
      have ht : nT (addAll c l).ns n = nT c.ns n := by unfold nT; rw [addAll_at l c hn]
      have hkk : nK (addAll c l).ns n = nK c.ns n := by unfold nK; rw [addAll_at l c hn]
      show sumTo (hw (setFi _ _ _) H') (setFi _ _ _).length ≤ _
      rw [setFi_len]
      have h1 : sumTo (hw (setFi (addAll c l).ns n c.ns.length) H') (addAll c l).ns.length = sumTo (upd (hw (addAll c l).ns H') n l.length) (addAll c l).ns.length := sumTo_congr fun m hm => by
        by_cases e : m = n
        · subst e
          rw [upd_same]
          unfold hw wgt
          rw [nT_setFi hn', nK_setFi hn', upd_same, hH m hn, hh, if_pos rfl, if_pos (by omega), ht, hl]
        · rw [upd_ne e]
          exact hw_same (nT_setFi hn') (by rw [nK_setFi hn', upd_ne e]) rfl
      have h2 := sumTo_upd (f := hw (addAll c l).ns H') (x := l.length) hn'
      have h3 := mea_addAll l c hH
      have h4 : hw (addAll c l).ns H' n = 2 * (nT c.ns n).size - 1 := by
        unfold hw wgt
        rw [hH n hn, hh, if_pos rfl, hkk, hk, if_neg (by simp), ht]
      have h5 := szs_eq l
      have h6 := Tm.size_sym (t := nT c.ns n) (fun e => hv (.inl e))
      rw [← hl] at h6
      rw [h1]
      rw [hlen] at h2 ⊢
      omega
    · exact triv

def pushP (c : Cl) (a b : Nat) : Cl :=
  ⟨(pC (pC c a).1 b).1.ns, (pC (pC c a).1 b).1.vr, (pC (pC c a).1 b).1.ps ++ (List.range ((pC c a).2.2 - (pC c a).2.1)).reverse.map fun i => ((pC c a).2.1 + i, (pC (pC c a).1 b).2.1 + i)⟩
def Cl.setUp (c : Cl) (n k : Nat) : Cl := ⟨Go.Proofs.YteegmcfobgpemaaGreat.setUp c.ns n k, c.vr, c.ps⟩
def joinTo (c : Cl) (a b : Nat) : Cl × Bool :=
  if (nT c.ns a).f < 0 then (c.setUp a b, true)
  else if (nT c.ns a).f ≠ (nT c.ns b).f ∨ (nT c.ns a).l.length ≠ (nT c.ns b).l.length then (c, false)
  else ((pushP c a b).setUp a b, true)
def joinC (k : Nat) (c : Cl) (x y : Nat) : Option (Cl × Bool) := match headC k c.ns x with
  | none => none
  | some q => match headC k q.1 y with
    | none => none
    | some q' => if q.2 = q'.2 then some (⟨q'.1, c.vr, c.ps⟩, true)
      else if (nT q'.1 q'.2).f < (nT q'.1 q.2).f then some (joinTo ⟨q'.1, c.vr, c.ps⟩ q'.2 q.2)
      else some (joinTo ⟨q'.1, c.vr, c.ps⟩ q.2 q'.2)
theorem joinC_le {k m : Nat} (h : k ≤ m) {c : Cl} {x y : Nat} {r} (e : joinC k c x y = some r) : joinC m c x y = some r := by
  unfold joinC at e ⊢
  cases h1 : headC k c.ns x with
  | none => rw [h1] at e; cases e
  | some q =>
    rw [h1] at e
    rw [headC_le h h1]
    simp only at e ⊢
    cases h2 : headC k q.1 y with
    | none => rw [h2] at e; cases e
    | some q' =>
      rw [h2] at e
      rw [headC_le h h2]
      exact e
def mea (c : Cl) (H : Nat → Nat) : Nat := c.ps.length + sumTo (hw c.ns H) c.ns.length
def Left (c : Cl) (M : Nat) (E : List (Tm × Tm)) (q : Cl × Bool) : Prop := (q.2 = false → ∀ τ, ¬ uni τ E) ∧ (q.2 = true → ∃ H' r', ClsC q.1 H' r' E ∧ mea q.1 H' < M)
theorem joinTo_spec {ns vr ps x y} {H r : Nat → Nat} {E} (h : ClsC ⟨ns, vr, ps ++ [(x, y)]⟩ H r E) {a b : Nat} (ha : a < ns.length) (hb : b < ns.length) (hha : H a = a) (hhb : H b = b) (hab : a ≠ b) (hxy : (H x = a ∧ H y = b) ∨ (H x = b ∧ H y = a)) (hlow : (nT ns a).f ≤ (nT ns b).f) : Left ⟨ns, vr, ps⟩ (mea ⟨ns, vr, ps ++ [(x, y)]⟩ H) E (joinTo ⟨ns, vr, ps⟩ a b) := by
  have h0 : Cls ns.length (nT ns) (nK ns) (nU ns) H r vr (ps ++ [(x, y)]) E := h
  -- what the new heads weigh
  have wH : ∀ (ns' : List Nd) (H1 : Nat → Nat), (∀ m, m < ns'.length → H1 m < ns'.length ∧ H1 (H1 m) = H1 m) → a < ns'.length → b < ns'.length → H1 a = a → H1 b = b → sumTo (hw (setUp ns' a b) (fun m => if H1 m = a then b else H1 m)) ns'.length + wgt ns' a = sumTo (hw ns' H1) ns'.length := fun ns' H1 hd ha' hb' e1 e2 => by
    have e3 : sumTo (hw (setUp ns' a b) (fun m => if H1 m = a then b else H1 m)) ns'.length = sumTo (upd (hw ns' H1) a 0) ns'.length := sumTo_congr fun m hm => by
      unfold hw
      by_cases e : m = a
      · subst e
        rw [upd_same, if_neg]
        show ¬ (if H1 m = m then b else H1 m) = m
        rw [if_pos e1]; exact Ne.symm hab
      · rw [upd_ne e]
        have ew : wgt (setUp ns' a b) m = wgt ns' m := by unfold wgt; rw [nT_setUp ha', nK_setUp ha']
        rw [ew]
        by_cases e4 : H1 m = a
        · have e5 : (if H1 m = a then b else H1 m) = b := if_pos e4
          have e6 : b ≠ m := fun e7 => by rw [← e7, e2] at e4; exact hab e4.symm
          show (if (if H1 m = a then b else H1 m) = m then _ else _) = _
          rw [e5, if_neg e6, if_neg (by rw [e4]; exact Ne.symm e)]
        · show (if (if H1 m = a then b else H1 m) = m then _ else _) = _
          rw [if_neg e4]
    have e4 := sumTo_upd (f := hw ns' H1) (n := a) (x := 0) ha'
    have e5 : hw ns' H1 a = wgt ns' a := by unfold hw; rw [if_pos e1]
    omega
  unfold joinTo
  by_cases hf : (nT ns a).f < 0
  · rw [if_pos hf]
    refine ⟨fun e => (by cases e), fun _ => ?_⟩
    have hu := Cls.union h0 ha hb hha hhb hab hxy hlow (qs := []) (fun e => absurd hf e) (fun q hq => by cases hq)
    refine ⟨fun m => if H m = a then b else H m, fun m => if H m = a then r m + r b + 1 else r m, ?_, ?_⟩
    · unfold ClsC
      show Cls (setUp _ _ _).length (nT (setUp _ _ _)) (nK (setUp _ _ _)) (nU (setUp _ _ _)) _ _ _ _ _
      rw [setUp_len]
      rw [List.append_nil] at hu
      exact hu.congr (fun m _ => nT_setUp ha) (fun m _ => nK_setUp ha) (fun m _ => nU_setUp ha) fun m _ => rfl
    · have := wH ns H h0.hd ha hb hha hhb
      show ps.length + sumTo (hw (setUp ns a b) _) (setUp ns a b).length < (ps ++ [(x, y)]).length + sumTo (hw ns H) ns.length
      rw [setUp_len, List.length_append, List.length_singleton]
      omega
  · rw [if_neg hf]
    by_cases hc : (nT ns a).f ≠ (nT ns b).f ∨ (nT ns a).l.length ≠ (nT ns b).l.length
    · rw [if_pos hc]
      exact ⟨fun _ => Cls.clash h0 hxy hf (by show ¬ (nT ns b).f < 0; omega) hc, fun e => by cases e⟩
    · rw [if_neg hc]
      refine ⟨fun e => (by cases e), fun _ => ?_⟩
      have hff : (nT ns a).f = (nT ns b).f := Decidable.byContradiction fun h => hc (.inl h)
      have hll : (nT ns a).l.length = (nT ns b).l.length := Decidable.byContradiction fun h => hc (.inr h)
      -- parts of both; what waits plays no part in them
      obtain ⟨c0, hc0⟩ : ∃ c0 : Cl, c0 = ⟨ns, vr, ps⟩ := ⟨_, rfl⟩
      have pps : ∀ (c : Cl) (qs : List (Nat × Nat)) (n : Nat), pC ⟨c.ns, c.vr, qs⟩ n = (⟨(pC c n).1.ns, (pC c n).1.vr, qs⟩, (pC c n).2) := fun c qs n => by
        have addQ : ∀ (l : List Tm) (c : Cl) (qs : List (Nat × Nat)), addAll ⟨c.ns, c.vr, qs⟩ l = ⟨(addAll c l).ns, (addAll c l).vr, qs⟩ := fun l => by
          induction l with
          | nil => exact fun c qs => rfl
          | cons t l ih => intro c qs; exact ih (addC c t) qs
        unfold pC
        split
        · rfl
        · split
          · have := addQ (nT c.ns n).l (c.setFi n c.ns.length) qs
            show (addAll ⟨(c.setFi n c.ns.length).ns, (c.setFi n c.ns.length).vr, qs⟩ _, _) = _
            rw [this]
          · rfl
      have hA := pps ⟨ns, vr, ps⟩ (ps ++ [(x, y)]) a
      have hp1 := ClsC.parts h (n := a) ha
      rw [hA] at hp1
      obtain ⟨H1, r1, g1, g2, g3, g4⟩ := hp1
      obtain ⟨c1, hc1⟩ : ∃ c1, c1 = (pC ⟨ns, vr, ps⟩ a).1 := ⟨_, rfl⟩
      rw [← hc1] at g1 g2 g4
      have l1 : ns.length ≤ c1.ns.length := g2.len
      have hB := pps c1 (ps ++ [(x, y)]) b
      have hp2 := ClsC.parts g1 (n := b) (show b < c1.ns.length by omega)
      rw [hB] at hp2
      obtain ⟨H2, r2, k1, k2, k3, k4⟩ := hp2
      obtain ⟨c2, hc2⟩ : ∃ c2, c2 = (pC c1 b).1 := ⟨_, rfl⟩
      rw [← hc2] at k1 k2 k4
      have l2 : c1.ns.length ≤ c2.ns.length := k2.len
      have t1 : ∀ m, m < ns.length → nT c1.ns m = nT ns m := g2.tm
      have t2 : ∀ m, m < c1.ns.length → nT c2.ns m = nT c1.ns m := k2.tm
      have ta : nT c2.ns a = nT ns a := by rw [t2 a (by omega), t1 a ha]
      have tb : nT c2.ns b = nT ns b := by rw [t2 b (by omega), t1 b hb]
      have hd1 : ∀ m, m < ns.length → H1 m = H m := g2.hd
      have hd2 : ∀ m, m < c1.ns.length → H2 m = H1 m := k2.hd
      have hH2 : ∀ m, m < ns.length → H2 m = H m := fun m hm => by rw [hd2 m (by omega), hd1 m hm]
      have hxyN := h0.pss (x, y) (by simp)
      have hps1 : c1.ps = ps := by
        have := pps ⟨ns, vr, ps⟩ ps a
        rw [hc1, this]
      have hps2 : c2.ps = ps := by
        have := pps c1 ps b
        rw [← hps1] at this
        rw [hc2]
        have h9 := congrArg (fun q => q.1.ps) this
        exact h9.trans hps1
      -- where parts lie
      have qa : (pC ⟨ns, vr, ps⟩ a).2.2 - (pC ⟨ns, vr, ps⟩ a).2.1 = (nT ns a).l.length ∧ ((nT ns a).l.length ≠ 0 → (pC ⟨ns, vr, ps⟩ a).2.1 = nK c2.ns a ∧ nK c2.ns a ≠ 0) := by
        by_cases hz : (nT ns a).l.length = 0
        · have := g3 (.inr hz)
          have this : (pC ⟨ns, vr, ps⟩ a).2 = (0, 0) := this
          rw [this]
          exact ⟨by show 0 - 0 = _; omega, fun e => absurd hz e⟩
        · obtain ⟨q1, q2⟩ := g4 fun e => e.elim hf hz
          have q2 : (pC ⟨ns, vr, ps⟩ a).2 = (nK c1.ns a, nK c1.ns a + (nT ns a).l.length) := q2
          have q3 : nK c2.ns a = nK c1.ns a := k2.kd a (by show a < c1.ns.length; omega) q1
          rw [q2]
          exact ⟨by show nK c1.ns a + _ - nK c1.ns a = _; omega, fun _ => ⟨q3.symm, by rw [q3]; exact q1⟩⟩
      have qb : (nT ns b).l.length ≠ 0 → (pC c1 b).2.1 = nK c2.ns b ∧ nK c2.ns b ≠ 0 := fun hz => by
        have tb1 : nT c1.ns b = nT ns b := t1 b hb
        obtain ⟨q1, q2⟩ := k4 fun e => by
          have e : (nT c1.ns b).f < 0 ∨ (nT c1.ns b).l.length = 0 := e
          rw [tb1] at e
          exact e.elim (fun e => hf (by omega)) hz
        have q2 : (pC c1 b).2 = (nK c2.ns b, nK c2.ns b + _) := q2
        rw [q2]
        exact ⟨rfl, q1⟩
      obtain ⟨qs, hqs⟩ : ∃ qs, qs = (List.range ((pC ⟨ns, vr, ps⟩ a).2.2 - (pC ⟨ns, vr, ps⟩ a).2.1)).reverse.map fun i => ((pC ⟨ns, vr, ps⟩ a).2.1 + i, (pC c1 b).2.1 + i) := ⟨_, rfl⟩
      have hpush : pushP ⟨ns, vr, ps⟩ a b = ⟨c2.ns, c2.vr, ps ++ qs⟩ := by
        unfold pushP
        rw [← hc1, ← hc2, ← hqs, hps2]
      have hqm : ∀ q, q ∈ qs ↔ ∃ i, i < (nT ns a).l.length ∧ q = ((pC ⟨ns, vr, ps⟩ a).2.1 + i, (pC c1 b).2.1 + i) := fun q => by
        rw [hqs, List.mem_map, qa.1]
        constructor
        · rintro ⟨i, hi, e⟩
          exact ⟨i, List.mem_range.1 (List.mem_reverse.1 hi), e.symm⟩
        · rintro ⟨i, hi, e⟩
          exact ⟨i, List.mem_reverse.2 (List.mem_range.2 hi), e.symm⟩
      have ha2 : a < c2.ns.length := by omega
      have hb2 : b < c2.ns.length := by omega
      have hu := Cls.union (show Cls c2.ns.length (nT c2.ns) (nK c2.ns) (nU c2.ns) H2 r2 c2.vr (ps ++ [(x, y)]) E from k1) ha2 hb2 (by rw [hH2 a ha]; exact hha) (by rw [hH2 b hb]; exact hhb) hab (by rw [hH2 x hxyN.1, hH2 y hxyN.2]; exact hxy) (by rw [ta, tb]; exact hlow) (qs := qs)
        (fun _ => by
          rw [ta, tb]
          refine ⟨hff.symm, hll.symm, fun hz => ⟨(qa.2 hz).2, (qb (by rw [← hll]; exact hz)).2⟩, fun i hi => ?_⟩
          rw [hqm]
          refine ⟨i, hi, ?_⟩
          rw [(qa.2 (by omega)).1, (qb (by omega)).1])
        (fun q hq => by
          obtain ⟨i, hi, e⟩ := (hqm q).1 hq
          rw [ta]
          refine ⟨hf, i, hi, ?_⟩
          rw [e, (qa.2 (by omega)).1, (qb (by omega)).1])
      rw [hpush]
      refine ⟨fun m => if H2 m = a then b else H2 m, fun m => if H2 m = a then r2 m + r2 b + 1 else r2 m, ?_, ?_⟩
      · unfold ClsC
        show Cls (setUp _ _ _).length (nT (setUp _ _ _)) (nK (setUp _ _ _)) (nU (setUp _ _ _)) _ _ _ _ _
        rw [setUp_len]
        exact hu.congr (fun m _ => nT_setUp ha2) (fun m _ => nK_setUp ha2) (fun m _ => nU_setUp ha2) fun m _ => rfl
      · have w1 := wH c2.ns H2 (show Cls c2.ns.length (nT c2.ns) (nK c2.ns) (nU c2.ns) H2 r2 c2.vr (ps ++ [(x, y)]) E from k1).hd ha2 hb2 (by rw [hH2 a ha]; exact hha) (by rw [hH2 b hb]; exact hhb)
        have w2 := mea_parts ⟨ns, vr, ps⟩ (n := a) ha (H := H) (H' := H1) hha hd1
        rw [← hc1] at w2
        have w3 := mea_parts c1 (n := b) (by omega) (H := H1) (H' := H2) (by rw [hd1 b hb]; exact hhb) hd2
        rw [← hc2] at w3
        have w4 : qs.length = (nT ns a).l.length := by rw [hqs, List.length_map, List.length_reverse, List.length_range, qa.1]
        have w5 : (nT ns a).l.length ≤ wgt c2.ns a := by
          by_cases hz : (nT ns a).l.length = 0
          · omega
          · unfold wgt
            rw [if_pos (qa.2 hz).2, ta]; exact Nat.le_refl _
        show (ps ++ qs).length + sumTo (hw (setUp c2.ns a b) _) (setUp c2.ns a b).length < (ps ++ [(x, y)]).length + sumTo (hw ns H) ns.length
        rw [setUp_len, List.length_append, List.length_append, List.length_singleton]
        have w2 : sumTo (hw c1.ns H1) c1.ns.length ≤ sumTo (hw ns H) ns.length := w2
        omega
theorem mea_same {ns ns' : List Nd} {vr ps} {H : Nat → Nat} (hl : ns'.length = ns.length) (ht : ∀ m, nT ns' m = nT ns m) (hk : ∀ m, nK ns' m = nK ns m) : mea ⟨ns', vr, ps⟩ H = mea ⟨ns, vr, ps⟩ H := by
  unfold mea
  rw [show (Cl.mk ns' vr ps).ns.length = ns.length from hl]
  show ps.length + _ = ps.length + _
  congr 1
  exact sumTo_congr fun m _ => hw_same (ht m) (hk m) rfl
theorem joinC_spec {ns vr ps x y} {H r : Nat → Nat} {E} (h : ClsC ⟨ns, vr, ps ++ [(x, y)]⟩ H r E) : ∃ k q, joinC k ⟨ns, vr, ps⟩ x y = some q ∧ Left ⟨ns, vr, ps⟩ (mea ⟨ns, vr, ps ++ [(x, y)]⟩ H) E q := by
  have hxy := h.pss (x, y) (by simp)
  have hx : x < ns.length := hxy.1
  have hy : y < ns.length := hxy.2
  obtain ⟨ns1, e1, g1, l1, t1, k1, _⟩ := ClsC.head (r x + r y + 1) h hx (by omega)
  obtain ⟨ns2, e2, g2, l2, t2, k2, _⟩ := ClsC.head (r x + r y + 1) g1 (n := y) (by omega) (by omega)
  have hm : mea ⟨ns2, vr, ps ++ [(x, y)]⟩ H = mea ⟨ns, vr, ps ++ [(x, y)]⟩ H := mea_same (by omega) (fun m => by rw [t2, t1]) fun m => by rw [k2, k1]
  have hdx := g2.hd x (by show x < ns2.length; omega)
  have hdy := g2.hd y (by show y < ns2.length; omega)
  refine ⟨r x + r y + 1, ?_⟩
  unfold joinC
  rw [show headC (r x + r y + 1) (Cl.mk ns vr ps).ns x = some (ns1, H x) from e1]
  simp only
  rw [e2]
  simp only
  rw [← hm]
  by_cases e : H x = H y
  · rw [if_pos e]
    refine ⟨_, rfl, fun e => (by cases e), fun _ => ⟨H, r, Cls.drop g2 e, ?_⟩⟩
    show ps.length + _ < (ps ++ [(x, y)]).length + _
    rw [List.length_append, List.length_singleton]
    show _ + sumTo (hw ns2 H) ns2.length < _ + sumTo (hw ns2 H) ns2.length
    omega
  · rw [if_neg e]
    split
    · rename_i hf
      exact ⟨_, rfl, joinTo_spec g2 hdy.1 hdx.1 hdy.2 hdx.2 (Ne.symm e) (.inr ⟨rfl, rfl⟩) (Int.le_of_lt hf)⟩
    · rename_i hf
      exact ⟨_, rfl, joinTo_spec g2 hdx.1 hdy.1 hdx.2 hdy.2 e (.inl ⟨rfl, rfl⟩) (by omega)⟩
def runC : Nat → Cl → Option (Cl × Bool)
  | 0, _ => none
  | k + 1, c => match c.ps.getLast? with
    | none => some (c, true)
    | some p => match joinC k ⟨c.ns, c.vr, c.ps.dropLast⟩ p.1 p.2 with
      | none => none
      | some q => if q.2 = true then runC k q.1 else some q
theorem runC_succ : ∀ (k : Nat) (c : Cl) (r), runC k c = some r → runC (k + 1) c = some r
  | 0, _, _, e => by cases e
  | k + 1, c, r, e => by
    rw [runC] at e ⊢
    cases h1 : c.ps.getLast? with
    | none => rw [h1] at e; exact e
    | some p =>
      rw [h1] at e
      simp only at e ⊢
      cases h2 : joinC k ⟨c.ns, c.vr, c.ps.dropLast⟩ p.1 p.2 with
      | none => rw [h2] at e; cases e
      | some q =>
        rw [h2] at e
        rw [joinC_le (Nat.le_succ k) h2]
        simp only at e ⊢
        split
        · rename_i h3; rw [if_pos h3] at e; exact runC_succ k _ _ e
        · rename_i h3; rw [if_neg h3] at e; exact e
theorem runC_le {k m : Nat} (h : k ≤ m) {c : Cl} {r} (e : runC k c = some r) : runC m c = some r := by
  induction h with
  | refl => exact e
  | step _ ih => exact runC_succ _ _ _ ih
def Told (E : List (Tm × Tm)) (q : Cl × Bool) : Prop := (q.2 = false → ∀ τ, ¬ uni τ E) ∧ (q.2 = true → q.1.ps = [] ∧ ∃ H' r', ClsC q.1 H' r' E)
theorem runC_spec : ∀ (M : Nat) (c : Cl) {H r : Nat → Nat} {E}, mea c H = M → ClsC c H r E → ∃ k q, runC k c = some q ∧ Told E q := by
  intro M
  induction M using Nat.strongRecOn with
  | ind M ih =>
    intro c H r E hM h
    cases hp : c.ps.getLast? with
    | none =>
      refine ⟨1, (c, true), by rw [runC, hp], fun e => (by cases e), fun _ => ⟨?_, H, r, h⟩⟩
      exact List.getLast?_eq_none_iff.1 hp
    | some p =>
      have hps : c.ps = c.ps.dropLast ++ [p] := by
        have hne : c.ps ≠ [] := fun e => by rw [e] at hp; cases hp
        have h8 : c.ps.getLast hne = p := by
          have := List.getLast?_eq_some_getLast hne
          rw [hp] at this
          exact (Option.some.inj this).symm
        rw [← h8, List.dropLast_concat_getLast hne]
      have hc : c = ⟨c.ns, c.vr, c.ps.dropLast ++ [(p.1, p.2)]⟩ := by
        conv => lhs; rw [show c = ⟨c.ns, c.vr, c.ps⟩ from rfl, hps]
      rw [hc] at h
      obtain ⟨k, q, e1, l1, l2⟩ := joinC_spec h
      cases hq : q.2 with
      | false =>
        refine ⟨k + 1, q, ?_, fun _ => l1 hq, fun e => by rw [hq] at e; cases e⟩
        rw [runC, hp]
        simp only
        rw [e1]
        simp only
        rw [hq, if_neg (by simp)]
      | true =>
        obtain ⟨H', r', g1, g2⟩ := l2 hq
        rw [← hc] at g2
        obtain ⟨k2, q2, e2, g3⟩ := ih (mea q.1 H') (by omega) q.1 rfl g1
        refine ⟨max k k2 + 1, q2, ?_, g3⟩
        rw [runC, hp]
        simp only
        rw [joinC_le (Nat.le_max_left k k2) e1]
        simp only
        rw [hq, if_pos rfl]
        exact runC_le (Nat.le_max_right k k2) e2
def openC (c : Cl) (p : Tm × Tm) : Cl := ⟨(addC (addC c p.1) p.2).ns, (addC (addC c p.1) p.2).vr, (addC (addC c p.1) p.2).ps ++ [(c.ns.length, c.ns.length + 1)]⟩
def joinAllC (k : Nat) : List (Tm × Tm) → Cl → Option (Cl × Bool)
  | [], c => some (c, true)
  | p :: l, c => match runC k (openC c p) with
    | none => none
    | some q => if q.2 = true then joinAllC k l q.1 else some q
theorem joinAllC_le {k m : Nat} (h : k ≤ m) : ∀ {l : List (Tm × Tm)} {c : Cl} {r}, joinAllC k l c = some r → joinAllC m l c = some r
  | [], c, r, e => e
  | p :: l, c, r, e => by
    rw [joinAllC] at e ⊢
    cases h2 : runC k (openC c p) with
    | none => rw [h2] at e; cases e
    | some q =>
      rw [h2] at e
      rw [runC_le h h2]
      simp only at e ⊢
      split
      · rename_i h3; rw [if_pos h3] at e; exact joinAllC_le h e
      · rename_i h3; rw [if_neg h3] at e; exact e
theorem ClsC.openC {c : Cl} {H r : Nat → Nat} {E} (h : ClsC c H r E) (p : Tm × Tm) : ∃ H' r', ClsC (openC c p) H' r' (E ++ [p]) := by
  obtain ⟨H1, r1, g1, _⟩ := h.add p.1
  obtain ⟨H2, r2, g2, _⟩ := g1.add p.2
  have l1 := addC_len c p.1
  have l2 := addC_len (addC c p.1) p.2
  have h3 := Cls.push g2 (n := c.ns.length) (m := c.ns.length + 1) (by omega) (by omega)
  have t1 : nT (addC (addC c p.1) p.2).ns c.ns.length = p.1 := by
    unfold nT
    rw [addC_at _ _ (by omega)]
    unfold addC
    rw [getD_end]
  have t2 : nT (addC (addC c p.1) p.2).ns (c.ns.length + 1) = p.2 := by
    unfold nT
    rw [← l1]
    show (List.getD ((addC c p.1).ns ++ [_]) _ _).t = _
    rw [getD_end]
  rw [t1, t2] at h3
  exact ⟨H2, r2, h3⟩
theorem joinAllC_spec : ∀ (l : List (Tm × Tm)) (c : Cl) {H r : Nat → Nat} {E}, c.ps = [] → ClsC c H r E → ∃ k q, joinAllC k l c = some q ∧ Told (E ++ l) q
  | [], c, H, r, E, hp, h => ⟨0, (c, true), rfl, fun e => (by cases e), fun _ => ⟨hp, H, r, by rw [List.append_nil]; exact h⟩⟩
  | p :: l, c, H, r, E, hp, h => by
    obtain ⟨H1, r1, g1⟩ := h.openC p
    obtain ⟨k1, q1, e1, t1, t2⟩ := runC_spec _ _ rfl g1
    have e3 : E ++ [p] ++ l = E ++ p :: l := by rw [List.append_assoc]; rfl
    cases hq : q1.2 with
    | false =>
      refine ⟨k1, q1, ?_, fun _ τ ht => ?_, fun e => by rw [hq] at e; cases e⟩
      · rw [joinAllC, e1]
        simp only
        rw [hq, if_neg (by simp)]
      · rw [← e3, uni_app] at ht
        exact t1 hq τ ht.1
    | true =>
      obtain ⟨h2, H2, r2, g2⟩ := t2 hq
      obtain ⟨k2, q2, e2, g3⟩ := joinAllC_spec l q1.1 h2 g2
      refine ⟨max k1 k2, q2, ?_, by rw [← e3]; exact g3⟩
      rw [joinAllC, runC_le (Nat.le_max_left k1 k2) e1]
      simp only
      rw [hq, if_pos rfl]
      exact joinAllC_le (Nat.le_max_right k1 k2) e2
theorem sum_congr_nat {l : List Nat} {f g : Nat → Nat} (h : ∀ s ∈ l, f s = g s) : (l.map f).sum = (l.map g).sum := by
  rw [List.map_congr_left h]
theorem sumTo_zero {f : Nat → Nat} : ∀ {N : Nat}, (∀ n, n < N → f n = 0) → sumTo f N = 0
  | 0, _ => rfl
  | N + 1, h => by rw [sumTo, sumTo_zero fun n hn => h n (by omega), h N (by omega)]
theorem sumTo_list {N : Nat} : ∀ (L : List Nat) (f : Nat → Nat), L.Nodup → (∀ g ∈ L, g < N) → (L.map f).sum ≤ sumTo f N ∧ ((∀ g, g < N → g ∉ L → f g = 0) → sumTo f N = (L.map f).sum)
  | [], f, _, _ => ⟨Nat.zero_le _, fun h => sumTo_zero fun n hn => h n hn (by simp)⟩
  | a :: L, f, hn, hb => by
    obtain ⟨h1, h2⟩ := List.nodup_cons.1 hn
    have ha := hb a (by simp)
    have e1 := sumTo_upd (f := f) (x := 0) ha
    obtain ⟨i1, i2⟩ := sumTo_list L (upd f a 0) h2 fun g hg => hb g (List.mem_cons_of_mem _ hg)
    have e2 : (L.map (upd f a 0)).sum = (L.map f).sum := sum_congr_nat fun s hs => upd_ne fun e => h1 (e ▸ hs)
    rw [List.map_cons, List.sum_cons]
    refine ⟨by omega, fun hz => ?_⟩
    have := i2 fun g hg hgL => by
      by_cases e : g = a
      · rw [e, upd_same]
      · rw [upd_ne e]
        exact hz g hg fun hm => (List.mem_cons.1 hm).elim e hgL
    omega
theorem count_fm (eg : Nat → List Nat) (h : Nat) : ∀ L : List Nat, (L.flatMap eg).count h = (L.map fun g => (eg g).count h).sum
  | [] => rfl
  | a :: L => by rw [List.flatMap_cons, List.count_append, List.map_cons, List.sum_cons, count_fm eg h L]

section
variable (N : Nat) (hp : Nat → Bool) (eg : Nat → List Nat)
def degO (h g : Nat) : Nat := if hp g then (eg g).count h else 0
def deg (h : Nat) : Nat := sumTo (degO hp eg h) N
structure KI (k : Nat) (pre : List Nat) (u : Nat → Int) (o : List Nat) : Prop where
  cnt : ∀ h, u h + (((o.take k).flatMap eg ++ pre).count h : Nat) = (deg N hp eg h : Int)
  nd : o.Nodup
  hd : ∀ h ∈ o, h < N ∧ hp h = true
  zero : ∀ h, h < N → hp h = true → (h ∈ o ↔ u h = 0)
  ord : ∀ p g, p < k → o[p]? = some g → ∀ h ∈ eg g, ∀ q, o[q]? = some h → p < q
  orp : ∀ h ∈ pre, ∀ q, o[q]? = some h → k < q
variable {N hp eg}
theorem KI.start {o : List Nat} (hn : o.Nodup) (ho : ∀ h, h ∈ o ↔ (h < N ∧ hp h = true ∧ deg N hp eg h = 0)) : KI N hp eg 0 [] (fun h => (deg N hp eg h : Int)) o := by
  refine ⟨fun h => by simp, hn, fun h hh => ⟨((ho h).1 hh).1, ((ho h).1 hh).2.1⟩, fun h h1 h2 => ?_, fun p g h => by omega, fun h hh => by cases hh⟩
  rw [ho h]
  constructor
  · rintro ⟨_, _, e⟩; simp only [e]; rfl
  · intro e; exact ⟨h1, h2, by omega⟩
theorem get_lt {o : List Nat} {k g : Nat} (h : o[k]? = some g) : k < o.length := by
  rcases Nat.lt_or_ge k o.length with h1 | h1
  · exact h1
  · rw [List.getElem?_eq_none h1] at h; cases h
theorem take_snocN {o : List Nat} {k g : Nat} (h : o[k]? = some g) : o.take (k + 1) = o.take k ++ [g] := by
  rw [List.take_add_one, h]; rfl
theorem KI.pos {k : Nat} {pre : List Nat} {u : Nat → Int} {o : List Nat} (h : KI N hp eg k pre u o) {g x : Nat} {post : List Nat} (hk : o[k]? = some g) (he : eg g = pre ++ x :: post) : 0 < u x := by
  have hN : (o.take (k + 1)).Nodup := h.nd.sublist (List.take_sublist _ _)
  have h1 := (sumTo_list (N := N) (o.take (k + 1)) (degO hp eg x) hN fun g hg => (h.hd g (List.mem_of_mem_take hg)).1).1
  have h2 : ((o.take (k + 1)).map (degO hp eg x)).sum = ((o.take (k + 1)).flatMap eg).count x := by
    rw [count_fm]
    exact sum_congr_nat fun s hs => if_pos (h.hd s (List.mem_of_mem_take hs)).2
  rw [h2, take_snocN hk, List.flatMap_append, List.count_append] at h1
  have h3 : ([g].flatMap eg).count x = pre.count x + (1 + post.count x) := by
    rw [List.flatMap_cons, List.flatMap_nil, List.append_nil, he, List.count_append, List.count_cons]
    simp only [BEq.rfl, if_true]; omega
  have h4 := h.cnt x
  rw [List.count_append] at h4
  have h5 : deg N hp eg x = sumTo (degO hp eg x) N := rfl
  omega
theorem KI.step {k : Nat} {pre : List Nat} {u : Nat → Int} {o : List Nat} (h : KI N hp eg k pre u o) {g x : Nat} {post : List Nat} (hk : o[k]? = some g) (he : eg g = pre ++ x :: post) (hx : x < N ∧ hp x = true) : KI N hp eg k (pre ++ [x]) (upd u x (u x - 1)) (if u x - 1 = 0 then o ++ [x] else o) := by
  have hp0 := h.pos hk he
  have hxo : x ∉ o := fun hm => by have := (h.zero x hx.1 hx.2).1 hm; omega
  have hkl := get_lt hk
  have cnt : ∀ o' : List Nat, o'.take k = o.take k → ∀ y, upd u x (u x - 1) y + (((o'.take k).flatMap eg ++ (pre ++ [x])).count y : Nat) = (deg N hp eg y : Int) := fun o' ho y => by
    have := h.cnt y
    rw [ho, ← List.append_assoc, List.count_append]
    by_cases e : y = x
    · subst e
      rw [upd_same]
      have : [y].count y = 1 := by simp
      omega
    · rw [upd_ne e]
      have : [x].count y = 0 := by
        rw [List.count_eq_zero]; simpa using e
      omega
  split
  · rename_i hz
    have gx : ∀ {q y}, (o ++ [x])[q]? = some y → o[q]? = some y ∨ (q = o.length ∧ y = x) := fun {q y} e => by
      rcases Nat.lt_or_ge q o.length with h1 | h1
      · rw [List.getElem?_append_left h1] at e; exact .inl e
      · rw [List.getElem?_append_right h1] at e
        have h2 : q - o.length < [x].length := get_lt e
        simp only [List.length_singleton] at h2
        rw [show q - o.length = 0 by omega] at e
        exact .inr ⟨by omega, (Option.some.inj e).symm⟩
    refine ⟨cnt (o ++ [x]) (List.take_append_of_le_length (by omega)), ?_, fun y hy => ?_, fun y h1 h2 => ?_, fun p g' hp' hg y hy q hq => ?_, fun y hy q hq => ?_⟩
    · rw [List.nodup_append]
      exact ⟨h.nd, by simp, fun a ha b hb => by rw [List.mem_singleton] at hb; rw [hb]; exact fun e => hxo (e ▸ ha)⟩
    · rcases List.mem_append.1 hy with hy | hy
      · exact h.hd y hy
      · rw [List.mem_singleton] at hy; rw [hy]; exact hx
    · by_cases e : y = x
      · subst e
        rw [upd_same]
        exact ⟨fun _ => hz, fun _ => by simp⟩
      · rw [upd_ne e, ← h.zero y h1 h2]
        simp [e]
    · have hg' : o[p]? = some g' := by rw [List.getElem?_append_left (by omega)] at hg; exact hg
      rcases gx hq with hq | ⟨hq, _⟩
      · exact h.ord p g' hp' hg' y hy q hq
      · omega
    · rcases gx hq with hq' | ⟨hq', _⟩
      · rcases List.mem_append.1 hy with hy | hy
        · exact h.orp y hy q hq'
        · rw [List.mem_singleton] at hy
          exact absurd (List.mem_of_getElem? hq') (by rw [hy]; exact hxo)
      · omega
  · rename_i hz
    refine ⟨cnt o rfl, h.nd, h.hd, fun y h1 h2 => ?_, h.ord, fun y hy q hq => ?_⟩
    · by_cases e : y = x
      · subst e
        rw [upd_same]
        exact ⟨fun hm => absurd hm hxo, fun e => absurd e hz⟩
      · rw [upd_ne e]; exact h.zero y h1 h2
    · rcases List.mem_append.1 hy with hy | hy
      · exact h.orp y hy q hq
      · rw [List.mem_singleton] at hy
        exact absurd (List.mem_of_getElem? hq) (by rw [hy]; exact hxo)
theorem KI.next {k : Nat} {pre : List Nat} {u : Nat → Int} {o : List Nat} (h : KI N hp eg k pre u o) {g : Nat} (hk : o[k]? = some g) (he : eg g = pre) : KI N hp eg (k + 1) [] u o := by
  refine ⟨fun x => ?_, h.nd, h.hd, h.zero, fun p g' hp' hg y hy q hq => ?_, fun y hy => by cases hy⟩
  · rw [take_snocN hk, List.flatMap_append, List.append_nil, List.flatMap_cons, List.flatMap_nil, List.append_nil, he]
    exact h.cnt x
  · rcases Nat.lt_or_ge p k with h1 | h1
    · exact h.ord p g' h1 hg y hy q hq
    · have : p = k := by omega
      subst this
      rw [hk] at hg
      cases hg
      rw [he] at hy
      exact h.orp y hy q hq
theorem KI.over {u : Nat → Int} {o : List Nat} (h : KI N hp eg o.length [] u o) {x : Nat} (hx : x < N) (hpx : hp x = true) (hxo : x ∉ o) : ∃ g, g < N ∧ hp g = true ∧ g ∉ o ∧ x ∈ eg g := by
  apply Classical.byContradiction
  intro hno
  have h1 := (sumTo_list (N := N) o (degO hp eg x) h.nd fun g hg => (h.hd g hg).1).2 fun g hg hgo => by
    unfold degO
    split
    · rename_i hpg
      exact List.count_eq_zero.2 fun hm => hno ⟨g, hg, hpg, hgo, hm⟩
    · rfl
  have h2 : (o.map (degO hp eg x)).sum = (o.flatMap eg).count x := by
    rw [count_fm]
    exact sum_congr_nat fun s hs => if_pos (h.hd s hs).2
  have h3 := h.cnt x
  rw [List.take_length, List.append_nil] at h3
  have h5 : deg N hp eg x = sumTo (degO hp eg x) N := rfl
  exact hxo ((h.zero x hx hpx).2 (by omega))
theorem KI.rank {u : Nat → Int} {o : List Nat} (h : KI N hp eg o.length [] u o) (ha : ∀ x, x < N → hp x = true → x ∈ o) : ∃ ρ : Nat → Nat, ∀ g, g < N → hp g = true → ∀ x ∈ eg g, x < N → hp x = true → ρ x < ρ g := by
  refine ⟨fun x => o.length - o.idxOf x, fun g hg hpg x hx hxN hpx => ?_⟩
  have i1 := List.idxOf_lt_length_of_mem (ha g hg hpg)
  have i2 := List.idxOf_lt_length_of_mem (ha x hxN hpx)
  have e1 : o[o.idxOf g]? = some g := by rw [List.getElem?_eq_getElem i1, List.getElem_idxOf]
  have e2 : o[o.idxOf x]? = some x := by rw [List.getElem?_eq_getElem i2, List.getElem_idxOf]
  have := h.ord _ g i1 e1 x hx _ e2
  show o.length - _ < o.length - _
  omega
end
-- uses are kept by all but countUses and ordered
theorem getD_big {ns : List Nd} {n : Nat} (h : ns.length ≤ n) : ns.getD n ndD = ndD := by
  rw [List.getD_eq_getElem?_getD, List.getElem?_eq_none h]; rfl
theorem nS_set {ns : List Nd} {n h : Nat} {x : Nd} (hx : x.us = nS ns n) : nS (ns.set n x) h = nS ns h := by
  rcases Nat.lt_or_ge n ns.length with h1 | h1
  · unfold nS
    rw [getDn_set h1]
    split
    · rename_i e; rw [e]; exact hx
    · rfl
  · rw [List.set_eq_of_length_le h1]
theorem nS_up {ns : List Nd} {n k h : Nat} : nS (setUp ns n k) h = nS ns h := nS_set rfl
theorem nS_fi {ns : List Nd} {n k h : Nat} : nS (setFi ns n k) h = nS ns h := nS_set rfl
theorem nS_add (c : Cl) (t : Tm) (h : Nat) : nS (addC c t).ns h = nS c.ns h := by
  unfold nS addC
  rcases Nat.lt_or_ge h c.ns.length with h1 | h1
  · rw [getD_lt h1]
  · rw [getD_big h1]
    rcases Nat.lt_or_ge h (c.ns.length + 1) with h2 | h2
    · rw [show h = c.ns.length by omega, getD_end]; rfl
    · rw [getD_big (by rw [List.length_append, List.length_singleton]; exact h2)]
theorem nS_addAll (l : List Tm) : ∀ (c : Cl) (h : Nat), nS (addAll c l).ns h = nS c.ns h := by
  induction l with
  | nil => exact fun c h => rfl
  | cons t l ih => intro c h; rw [show addAll c (t :: l) = addAll (addC c t) l from rfl, ih, nS_add]
theorem nS_parts (c : Cl) (n h : Nat) : nS (pC c n).1.ns h = nS c.ns h := by
  unfold pC
  split
  · rfl
  · split
    · show nS (addAll _ _).ns h = _
      rw [nS_addAll]; exact nS_fi
    · rfl
theorem nS_head : ∀ (k : Nat) {ns : List Nd} {n : Nat} {q}, headC k ns n = some q → ∀ h, nS q.1 h = nS ns h
  | 0, _, _, _, e, _ => by cases e
  | k + 1, ns, n, q, e, h => by
    rw [headC] at e
    split at e
    · cases e; rfl
    · rw [nS_head k e h, nS_up]
theorem nS_joinTo (c : Cl) (a b h : Nat) : nS (joinTo c a b).1.ns h = nS c.ns h := by
  unfold joinTo
  split
  · exact nS_up
  · split
    · rfl
    · show nS (setUp _ _ _) h = _
      rw [nS_up]
      show nS (pC (pC c a).1 b).1.ns h = _
      rw [nS_parts, nS_parts]
theorem nS_join {k : Nat} {c : Cl} {x y : Nat} {q} (e : joinC k c x y = some q) (h : Nat) : nS q.1.ns h = nS c.ns h := by
  unfold joinC at e
  cases h1 : headC k c.ns x with
  | none => rw [h1] at e; cases e
  | some q1 =>
    rw [h1] at e
    simp only at e
    cases h2 : headC k q1.1 y with
    | none => rw [h2] at e; cases e
    | some q2 =>
      rw [h2] at e
      simp only at e
      have h3 : nS q2.1 h = nS c.ns h := by rw [nS_head k h2, nS_head k h1]
      split at e
      · cases e; exact h3
      · split at e
        · cases e; rw [nS_joinTo]; exact h3
        · cases e; rw [nS_joinTo]; exact h3
theorem nS_run : ∀ (k : Nat) {c : Cl} {q}, runC k c = some q → ∀ h, nS q.1.ns h = nS c.ns h
  | 0, _, _, e, _ => by cases e
  | k + 1, c, q, e, h => by
    rw [runC] at e
    cases h1 : c.ps.getLast? with
    | none => rw [h1] at e; cases e; rfl
    | some p =>
      rw [h1] at e
      simp only at e
      cases h2 : joinC k ⟨c.ns, c.vr, c.ps.dropLast⟩ p.1 p.2 with
      | none => rw [h2] at e; cases e
      | some q1 =>
        rw [h2] at e
        simp only at e
        split at e
        · rw [nS_run k e h, nS_join h2]
        · cases e; rw [nS_join h2]
theorem nS_all : ∀ {k : Nat} {l : List (Tm × Tm)} {c : Cl} {q}, joinAllC k l c = some q → ∀ h, nS q.1.ns h = nS c.ns h
  | k, [], c, q, e, h => by cases e; rfl
  | k, p :: l, c, q, e, h => by
    rw [joinAllC] at e
    cases h2 : runC k (openC c p) with
    | none => rw [h2] at e; cases e
    | some q1 =>
      rw [h2] at e
      simp only at e
      have h3 : nS q1.1.ns h = nS c.ns h := by
        rw [nS_run k h2]
        show nS (addC (addC c p.1) p.2).ns h = _
        rw [nS_add, nS_add]
      split at e
      · rw [nS_all e h, h3]
      · cases e; exact h3

def setUs (ns : List Nd) (n : Nat) (x : Int) : List Nd := ns.set n { ns.getD n ndD with us := x }
theorem getD_setUs {ns : List Nd} {n m : Nat} {x : Int} (h : n < ns.length) : (setUs ns n x).getD m ndD = if m = n then { ns.getD n ndD with us := x } else ns.getD m ndD := getDn_set h
theorem setUs_len {ns : List Nd} {n : Nat} {x : Int} : (setUs ns n x).length = ns.length := List.length_set
theorem nT_setUs {ns : List Nd} {n m : Nat} {x : Int} (h : n < ns.length) : nT (setUs ns n x) m = nT ns m := by
  unfold nT; rw [getD_setUs h]; split
  · rename_i e; rw [e]
  · rfl
theorem nK_setUs {ns : List Nd} {n m : Nat} {x : Int} (h : n < ns.length) : nK (setUs ns n x) m = nK ns m := by
  unfold nK; rw [getD_setUs h]; split
  · rename_i e; rw [e]
  · rfl
theorem nU_setUs {ns : List Nd} {n m : Nat} {x : Int} (h : n < ns.length) : nU (setUs ns n x) m = nU ns m := by
  unfold nU; rw [getD_setUs h]; split
  · rename_i e; rw [e]
  · rfl
theorem nS_setUs {ns : List Nd} {n m : Nat} {x : Int} (h : n < ns.length) : nS (setUs ns n x) m = upd (nS ns) n x m := by
  unfold nS upd; rw [getD_setUs h]; split <;> rfl
theorem ClsC.setUs {ns vr ps} {H r : Nat → Nat} {E} (h : ClsC ⟨ns, vr, ps⟩ H r E) {n : Nat} (hn : n < ns.length) (x : Int) : ClsC ⟨setUs ns n x, vr, ps⟩ H r E := by
  unfold ClsC
  show Cls (Go.Proofs.YteegmcfobgpemaaGreat.setUs _ _ _).length _ _ _ _ _ _ _ _
  rw [setUs_len]
  exact Cls.congr h (fun m _ => nT_setUs hn) (fun m _ => nK_setUs hn) (fun m _ => nU_setUs hn) fun m _ => rfl

def useC (k : Nat) : List Nat → List Nd → Option (List Nd)
  | [], ns => some ns
  | p :: l, ns => match headC k ns p with
    | none => none
    | some q => useC k l (setUs q.1 q.2 (nS q.1 q.2 + 1))
theorem useC_spec {vr ps} {H r : Nat → Nat} {E} : ∀ (l : List Nat) {ns : List Nd}, ClsC ⟨ns, vr, ps⟩ H r E → (∀ p ∈ l, p < ns.length) → ∃ k0 ns', (∀ k, k0 ≤ k → useC k l ns = some ns') ∧ ClsC ⟨ns', vr, ps⟩ H r E ∧ ns'.length = ns.length ∧ (∀ m, nT ns' m = nT ns m) ∧ (∀ m, nK ns' m = nK ns m) ∧ ∀ m, nS ns' m = nS ns m + ((l.map H).count m : Nat)
  | [], ns, h, _ => ⟨0, ns, fun _ _ => rfl, h, rfl, fun _ => rfl, fun _ => rfl, fun m => by simp⟩
  | p :: l, ns, h, hl => by
    have hp := hl p (by simp)
    obtain ⟨ns1, e1, g1, l1, t1, k1, s1⟩ := ClsC.head (r p + 1) h hp (by omega)
    have hH : H p < ns1.length := by rw [l1]; exact (h.hd p hp).1
    obtain ⟨k0, ns2, e2, g2, l2, t2, k2, s2⟩ := useC_spec l (g1.setUs hH (nS ns1 (H p) + 1)) fun q hq => by rw [setUs_len, l1]; exact hl q (List.mem_cons_of_mem _ hq)
    refine ⟨max (r p + 1) k0, ns2, fun k hk => ?_, g2, by rw [l2, setUs_len, l1], fun m => by rw [t2, nT_setUs hH, t1], fun m => by rw [k2, nK_setUs hH, k1], fun m => ?_⟩
    · rw [useC, headC_le (show r p + 1 ≤ k by omega) e1]
      exact e2 k (by omega)
    · rw [s2, nS_setUs hH, List.map_cons, List.count_cons]
      by_cases e : m = H p
      · subst e
        rw [upd_same, s1]
        simp only [BEq.rfl, if_true]; omega
      · rw [upd_ne e, s1]
        have : (H p == m) = false := by simpa using Ne.symm e
        rw [this]; simp
def egC (ns : List Nd) (H : Nat → Nat) (g : Nat) : List Nat := if (nT ns g).f < 0 then [] else (List.range (nT ns g).l.length).map fun i => H (nK ns g + i)
def countC (k : Nat) : Nat → Nat → Cl → List Nat → Option (Cl × List Nat)
  | 0, _, _, _ => none
  | j + 1, n, c, hs => if n < c.ns.length then (match headC k c.ns n with
      | none => none
      | some q => if q.2 ≠ n then countC k j (n + 1) ⟨q.1, c.vr, c.ps⟩ hs
        else match useC k (List.range' (pC ⟨q.1, c.vr, c.ps⟩ n).2.1 ((pC ⟨q.1, c.vr, c.ps⟩ n).2.2 - (pC ⟨q.1, c.vr, c.ps⟩ n).2.1)) (pC ⟨q.1, c.vr, c.ps⟩ n).1.ns with
          | none => none
          | some ns => countC k j (n + 1) ⟨ns, (pC ⟨q.1, c.vr, c.ps⟩ n).1.vr, (pC ⟨q.1, c.vr, c.ps⟩ n).1.ps⟩ (hs ++ [n]))
    else some (c, hs)
def gw (ns : List Nd) (n m : Nat) : Nat := if m < n then 0 else if nK ns m = 0 then (nT ns m).size else 1
theorem sumTo_more {f : Nat → Nat} : ∀ (l : List Tm) (N : Nat), (∀ i t, l[i]? = some t → f (N + i) ≤ t.size) → sumTo f (N + l.length) ≤ sumTo f N + (l.map Tm.size).sum
  | [], N, _ => by simp
  | t :: l, N, h => by
    have h1 := h 0 t rfl
    have h2 := sumTo_more (f := f) l (N + 1) fun i u hu => by
      have := h (i + 1) u (by simpa using hu)
      rw [show N + 1 + i = N + (i + 1) by omega]; exact this
    rw [List.length_cons, show N + (l.length + 1) = N + 1 + l.length by omega, List.map_cons, List.sum_cons]
    rw [sumTo] at h2
    rw [Nat.add_zero] at h1
    omega
theorem gw_step {ns : List Nd} {n : Nat} (hn : n < ns.length) : sumTo (gw ns (n + 1)) ns.length + (if nK ns n = 0 then (nT ns n).size else 1) = sumTo (gw ns n) ns.length := by
  have h1 : sumTo (gw ns (n + 1)) ns.length = sumTo (upd (gw ns n) n 0) ns.length := sumTo_congr fun m _ => by
    unfold gw
    by_cases e : m = n
    · subst e; rw [upd_same, if_pos (by omega)]
    · rw [upd_ne e]
      by_cases e2 : m < n
      · rw [if_pos (by omega), if_pos e2]
      · rw [if_neg (by omega), if_neg e2]
  have h2 := sumTo_upd (f := gw ns n) (x := 0) hn
  have h3 : gw ns n n = if nK ns n = 0 then (nT ns n).size else 1 := if_neg (by omega)
  rw [h1, ← h3]; omega
theorem gw_parts (c : Cl) {n : Nat} (hn : n < c.ns.length) : sumTo (gw (pC c n).1.ns (n + 1)) (pC c n).1.ns.length < sumTo (gw c.ns n) c.ns.length := by
  have h0 := gw_step hn
  have hpos : 1 ≤ (if nK c.ns n = 0 then (nT c.ns n).size else 1) := by
    split
    · exact Tm.size_pos _
    · exact Nat.le_refl _
  unfold pC
  split
  · show sumTo (gw c.ns (n + 1)) c.ns.length < _
    omega
  · rename_i hv
    split
    · rename_i hk
      rw [addAll_setFi _ c hn]
      obtain ⟨l, hl⟩ : ∃ l, l = (nT c.ns n).l := ⟨_, rfl⟩
      rw [← hl]
      have hlen := addAll_len l c
      have hn' : n < (addAll c l).ns.length := by omega
      show sumTo (gw (setFi _ _ _) (n + 1)) (setFi _ _ _).length < _
      rw [setFi_len, hlen]
      have h1 := sumTo_more (f := gw (setFi (addAll c l).ns n c.ns.length) (n + 1)) l c.ns.length fun i t hi => by
        have hil : i < l.length := by
          rcases Nat.lt_or_ge i l.length with h1 | h1
          · exact h1
          · rw [List.getElem?_eq_none h1] at hi; cases hi
        obtain ⟨a1, a2⟩ := addAll_new l c hil
        unfold gw
        rw [if_neg (by omega), nK_setFi hn', upd_ne (by omega), a2, if_pos rfl, nT_setFi hn']
        rw [hi] at a1
        rw [← Option.some.inj a1]; exact Nat.le_refl _
      have h2 : sumTo (gw (setFi (addAll c l).ns n c.ns.length) (n + 1)) c.ns.length = sumTo (gw c.ns (n + 1)) c.ns.length := sumTo_congr fun m hm => by
        unfold gw
        by_cases e : m < n + 1
        · rw [if_pos e, if_pos e]
        · rw [if_neg e, if_neg e, nK_setFi hn', upd_ne (by omega), nT_setFi hn']
          unfold nK nT
          rw [addAll_at l c hm]
      rw [hk, if_pos rfl] at h0
      have h6 := Tm.size_sym (t := nT c.ns n) (fun e => hv (.inl e))
      rw [← hl] at h6
      omega
    · show sumTo (gw c.ns (n + 1)) c.ns.length < _
      omega
structure CI (c : Cl) (H : Nat → Nat) (n : Nat) (hs : List Nat) : Prop where
  le : n ≤ c.ns.length
  lst : hs = (List.range n).filter fun m => decide (H m = m)
  kid : ∀ m, m < n → H m = m → ¬ (nT c.ns m).f < 0 → (nT c.ns m).l.length ≠ 0 → nK c.ns m ≠ 0
  us : ∀ h, nS c.ns h = ((hs.flatMap (egC c.ns H)).count h : Nat)
theorem CI.mem {c : Cl} {H : Nat → Nat} {n : Nat} {hs : List Nat} (h : CI c H n hs) {g : Nat} (hg : g ∈ hs) : g < n ∧ H g = g := by
  rw [h.lst, List.mem_filter] at hg
  exact ⟨List.mem_range.1 hg.1, of_decide_eq_true hg.2⟩
theorem CI.grow {c c' : Cl} {H H' r : Nat → Nat} {E} (hc : ClsC c H r E) {n : Nat} {hs : List Nat} (h : CI c H n hs) (hg : Grew c c' H H') (hS : ∀ m, nS c'.ns m = nS c.ns m) : CI c' H' n hs := by
  have hl := hg.len
  have hle := h.le
  refine ⟨by omega, ?_, fun m hm e hf hz => ?_, fun x => ?_⟩
  · rw [h.lst]
    apply List.filter_congr
    intro m hm
    rw [hg.hd m (by have := List.mem_range.1 hm; omega)]
  · have hm' : m < c.ns.length := by omega
    rw [hg.tm m hm'] at hf hz
    rw [hg.hd m hm'] at e
    have := h.kid m hm e hf hz
    rw [hg.kd m hm' this]; exact this
  · rw [hS, h.us x]
    have : hs.flatMap (egC c'.ns H') = hs.flatMap (egC c.ns H) := by
      have : ∀ g ∈ hs, egC c'.ns H' g = egC c.ns H g := fun g hgm => by
        obtain ⟨g1, g2⟩ := h.mem hgm
        have hm' : g < c.ns.length := by omega
        unfold egC
        rw [hg.tm g hm']
        split
        · rfl
        · rename_i hf
          apply List.map_congr_left
          intro i hi
          have hi := List.mem_range.1 hi
          have hk := h.kid g g1 g2 hf (by omega)
          rw [hg.kd g hm' hk, hg.hd _ ((hc.kid g hm' hk).2 i hi).1]
      rw [List.flatMap_def, List.flatMap_def, List.map_congr_left this]
    rw [this]
theorem Grew.of {c c' : Cl} {H : Nat → Nat} (hl : c'.ns.length = c.ns.length) (ht : ∀ m, nT c'.ns m = nT c.ns m) (hk : ∀ m, nK c'.ns m = nK c.ns m) (hs : ∀ m, nS c'.ns m = nS c.ns m) (hp : c'.ps = c.ps) : Grew c c' H H := ⟨by omega, fun m _ => ht m, fun m _ _ => hk m, fun m _ => hs m, fun _ _ => rfl, hp⟩
theorem gw_same {ns ns' : List Nd} {n : Nat} (hl : ns'.length = ns.length) (ht : ∀ m, nT ns' m = nT ns m) (hk : ∀ m, nK ns' m = nK ns m) : sumTo (gw ns' n) ns'.length = sumTo (gw ns n) ns.length := by
  rw [hl]
  exact sumTo_congr fun m _ => by unfold gw; rw [ht, hk]
theorem range_filt (H : Nat → Nat) (n : Nat) : (List.range (n + 1)).filter (fun m => decide (H m = m)) = (List.range n).filter (fun m => decide (H m = m)) ++ if H n = n then [n] else [] := by
  rw [List.range_succ, List.filter_append]
  congr 1
  rw [List.filter_cons, List.filter_nil]
  by_cases e : H n = n
  · rw [if_pos e, decide_eq_true e]; rfl
  · rw [if_neg e, decide_eq_false e]; rfl
theorem countC_spec : ∀ (M n : Nat) (c : Cl) (hs : List Nat) {H r : Nat → Nat} {E}, sumTo (gw c.ns n) c.ns.length = M → ClsC c H r E → CI c H n hs → ∃ k0 q H' r', (∀ k j, k0 ≤ k → k0 ≤ j → countC k j n c hs = some q) ∧ ClsC q.1 H' r' E ∧ CI q.1 H' q.1.ns.length q.2 ∧ q.1.ps = c.ps := by
  intro M
  induction M using Nat.strongRecOn with
  | ind M ih =>
    intro n c hs H r E hM h hi
    have hle := hi.le
    by_cases hn : n < c.ns.length
    · obtain ⟨ns1, e1, g1, l1, t1, k1, s1⟩ := ClsC.head (vr := c.vr) (ps := c.ps) (r n + 1) h hn (by omega)
      have i1 : CI ⟨ns1, c.vr, c.ps⟩ H n hs := hi.grow h (Grew.of l1 t1 k1 s1 rfl) s1
      have w1 : sumTo (gw ns1 n) ns1.length = M := by rw [gw_same l1 t1 k1]; exact hM
      have hn1 : n < ns1.length := by omega
      by_cases hh : H n = n
      · -- a head: its parts
        obtain ⟨H2, r2, g2, g3, g4, g5⟩ := ClsC.parts g1 (n := n) hn1
        obtain ⟨c1, hc1⟩ : ∃ c1 : Cl, c1 = ⟨ns1, c.vr, c.ps⟩ := ⟨_, rfl⟩
        rw [← hc1] at g1 g2 g3 g4 g5 i1
        have hn1 : n < c1.ns.length := by rw [hc1]; exact hn1
        have w1 : sumTo (gw c1.ns n) c1.ns.length = M := by rw [hc1]; exact w1
        obtain ⟨c2, hc2⟩ : ∃ c2, c2 = (pC c1 n).1 := ⟨_, rfl⟩
        have w2 := gw_parts c1 hn1
        have sp := nS_parts c1 n
        rw [← hc2] at g2 g3 g5 w2 sp
        have i2 : CI c2 H2 n hs := i1.grow g1 g3 sp
        have l2 : c1.ns.length ≤ c2.ns.length := g3.len
        have hn2 : n < c2.ns.length := by omega
        have tn : nT c2.ns n = nT c1.ns n := g3.tm n hn1
        have hh2 : H2 n = n := by rw [g3.hd n hn1]; exact hh
        -- which nodes are its parts
        have hpt : (List.range' (pC c1 n).2.1 ((pC c1 n).2.2 - (pC c1 n).2.1)).map H2 = egC c2.ns H2 n ∧ ∀ p ∈ List.range' (pC c1 n).2.1 ((pC c1 n).2.2 - (pC c1 n).2.1), p < c2.ns.length := by
          by_cases hv : (nT c1.ns n).f < 0 ∨ (nT c1.ns n).l.length = 0
          · rw [g4 hv]
            refine ⟨?_, fun p hp => by simp at hp⟩
            unfold egC
            rw [tn]
            split
            · rfl
            · rename_i hf
              rw [hv.resolve_left hf]; rfl
          · obtain ⟨q1, q2⟩ := g5 hv
            have hf : ¬ (nT c1.ns n).f < 0 := fun e => hv (.inl e)
            rw [q2]
            simp only
            rw [show nK c2.ns n + (nT c1.ns n).l.length - nK c2.ns n = (nT c1.ns n).l.length by omega]
            refine ⟨?_, fun p hp => ?_⟩
            · unfold egC
              rw [tn, if_neg hf, List.range'_eq_map_range, List.map_map]
              rfl
            · rw [List.mem_range'_1] at hp
              have := ((g2.kid n hn2 q1).2 (p - nK c2.ns n) (by rw [tn]; omega)).1
              omega
        obtain ⟨k0, ns3, e3, g6, l3, t3, k3, s3⟩ := useC_spec (vr := c2.vr) (ps := c2.ps) _ g2 hpt.2
        rw [hpt.1] at s3
        have i3 : CI ⟨ns3, c2.vr, c2.ps⟩ H2 (n + 1) (hs ++ [n]) := by
          have ee : ∀ g, egC ns3 H2 g = egC c2.ns H2 g := fun g => by unfold egC; rw [t3, k3]
          refine ⟨by show n + 1 ≤ ns3.length; omega, ?_, fun m hm e hf hz => ?_, fun x => ?_⟩
          · rw [range_filt, if_pos hh2, i2.lst]
          · show nK ns3 m ≠ 0
            rw [show nT (Cl.mk ns3 c2.vr c2.ps).ns m = nT c2.ns m from t3 m] at hf hz
            rw [k3]
            by_cases em : m = n
            · subst em
              rw [tn] at hf hz
              exact (g5 fun e => e.elim hf hz).1
            · exact i2.kid m (by omega) e hf hz
          · show nS ns3 x = ((hs ++ [n]).flatMap (egC ns3 H2)).count x
            rw [s3, i2.us x, List.flatMap_append, List.count_append, List.flatMap_cons, List.flatMap_nil, List.append_nil, show egC ns3 H2 = egC c2.ns H2 from funext ee]
            omega
        have w3 : sumTo (gw ns3 (n + 1)) ns3.length < M := by rw [gw_same l3 t3 k3]; omega
        obtain ⟨k4, q, H', r', e4, g7, i4, p4⟩ := ih _ w3 (n + 1) ⟨ns3, c2.vr, c2.ps⟩ (hs ++ [n]) rfl g6 i3
        refine ⟨max (max (r n + 1) k0) k4 + 1, q, H', r', fun k j hk hj => ?_, g7, i4, by rw [p4]; exact g3.ps.trans (by rw [hc1])⟩
        obtain ⟨j', rfl⟩ : ∃ j', j = j' + 1 := ⟨j - 1, by omega⟩
        rw [countC, if_pos hn, headC_le (show r n + 1 ≤ k by omega) e1]
        simp only
        rw [if_neg (by rw [hh]; simp), ← hc1, ← hc2, e3 k (by omega)]
        exact e4 k j' (by omega) (by omega)
      · have i2 : CI ⟨ns1, c.vr, c.ps⟩ H (n + 1) hs := by
          refine ⟨by show n + 1 ≤ ns1.length; omega, ?_, fun m hm e => ?_, i1.us⟩
          · rw [range_filt, if_neg hh, List.append_nil]; exact i1.lst
          · have : m ≠ n := fun em => hh (by rw [em] at e; exact e)
            exact i1.kid m (by omega) e
        have w2 : sumTo (gw ns1 (n + 1)) ns1.length < M := by
          have := gw_step hn1
          have hpos : 1 ≤ (if nK ns1 n = 0 then (nT ns1 n).size else 1) := by
            split
            · exact Tm.size_pos _
            · exact Nat.le_refl _
          omega
        obtain ⟨k4, q, H', r', e4, g7, i4, p4⟩ := ih _ w2 (n + 1) ⟨ns1, c.vr, c.ps⟩ hs rfl g1 i2
        refine ⟨max (r n + 1) k4 + 1, q, H', r', fun k j hk hj => ?_, g7, i4, p4⟩
        obtain ⟨j', rfl⟩ : ∃ j', j = j' + 1 := ⟨j - 1, by omega⟩
        rw [countC, if_pos hn, headC_le (show r n + 1 ≤ k by omega) e1]
        simp only
        rw [if_pos hh]
        exact e4 k j' (by omega) (by omega)
    · have hn' : n = c.ns.length := by omega
      refine ⟨1, (c, hs), H, r, fun k j _ hj => ?_, h, hn' ▸ hi, rfl⟩
      obtain ⟨j', rfl⟩ : ∃ j', j = j' + 1 := ⟨j - 1, by omega⟩
      rw [countC, if_neg hn]
def downC (k : Nat) : List Nat → List Nd → List Nat → Option (List Nd × List Nat)
  | [], ns, o => some (ns, o)
  | p :: l, ns, o => match headC k ns p with
    | none => none
    | some q => downC k l (setUs q.1 q.2 (nS q.1 q.2 - 1)) (if nS q.1 q.2 - 1 = 0 then o ++ [q.2] else o)
def ordC (k : Nat) : Nat → Nat → Cl → List Nat → Option (Cl × List Nat)
  | 0, _, _, _ => none
  | j + 1, i, c, o => match o[i]? with
    | none => some (c, o)
    | some g => match downC k (List.range' (pC c g).2.1 ((pC c g).2.2 - (pC c g).2.1)) (pC c g).1.ns o with
      | none => none
      | some q => ordC k j (i + 1) ⟨q.1, (pC c g).1.vr, (pC c g).1.ps⟩ q.2
def Made (ns : List Nd) (H : Nat → Nat) : Prop := ∀ m, m < ns.length → H m = m → ¬ (nT ns m).f < 0 → (nT ns m).l.length ≠ 0 → nK ns m ≠ 0
theorem parts_made {c : Cl} {H r : Nat → Nat} {E} (hc : ClsC c H r E) (hm : Made c.ns H) {g : Nat} (hg : g < c.ns.length) (hh : H g = g) : (pC c g).1 = c ∧ (List.range' (pC c g).2.1 ((pC c g).2.2 - (pC c g).2.1)).map H = egC c.ns H g ∧ ∀ p ∈ List.range' (pC c g).2.1 ((pC c g).2.2 - (pC c g).2.1), p < c.ns.length := by
  unfold pC
  by_cases hv : (nT c.ns g).f < 0 ∨ (nT c.ns g).l.length = 0
  · rw [if_pos hv]
    refine ⟨rfl, ?_, fun p hp => by simp at hp⟩
    unfold egC
    split
    · rfl
    · rename_i hf
      rw [hv.resolve_left hf]; rfl
  · have hf : ¬ (nT c.ns g).f < 0 := fun e => hv (.inl e)
    have hk := hm g hg hh hf fun e => hv (.inr e)
    rw [if_neg hv, if_neg hk]
    simp only
    rw [show nK c.ns g + (nT c.ns g).l.length - nK c.ns g = (nT c.ns g).l.length by omega]
    refine ⟨trivial, ?_, fun p hp => ?_⟩
    · unfold egC
      rw [if_neg hf, List.range'_eq_map_range, List.map_map]
      rfl
    · rw [List.mem_range'_1] at hp
      have := ((hc.kid g hg hk).2 (p - nK c.ns g) (by omega)).1
      omega
theorem downC_spec {vr ps} {H r : Nat → Nat} {E} {N : Nat} {hp : Nat → Bool} {eg : Nat → List Nat} (hhp : ∀ m, hp m = decide (H m = m)) {i g : Nat} : ∀ (l : List Nat) {pre : List Nat} {ns : List Nd} {o : List Nat}, ns.length = N → ClsC ⟨ns, vr, ps⟩ H r E → (∀ p ∈ l, p < N) → o[i]? = some g → eg g = pre ++ l.map H → KI N hp eg i pre (nS ns) o → ∃ k0 q, (∀ k, k0 ≤ k → downC k l ns o = some q) ∧ ClsC ⟨q.1, vr, ps⟩ H r E ∧ q.1.length = N ∧ (∀ m, nT q.1 m = nT ns m) ∧ (∀ m, nK q.1 m = nK ns m) ∧ q.2[i]? = some g ∧ KI N hp eg i (eg g) (nS q.1) q.2
  | [], pre, ns, o, hN, h, _, ho, he, hk => ⟨0, (ns, o), fun _ _ => rfl, h, hN, fun _ => rfl, fun _ => rfl, ho, by rw [he, List.map_nil, List.append_nil]; exact hk⟩
  | p :: l, pre, ns, o, hN, h, hl, ho, he, hk => by
    have hp0 : p < ns.length := by rw [hN]; exact hl p (by simp)
    obtain ⟨ns1, e1, g1, l1, t1, k1, s1⟩ := ClsC.head (r p + 1) h hp0 (by omega)
    have hd := h.hd p hp0
    have hH : H p < ns1.length := by rw [l1]; exact hd.1
    have hs := hk.step ho (by rw [he]; rfl) (x := H p) ⟨by rw [← hN]; exact hd.1, by rw [hhp]; exact decide_eq_true hd.2⟩
    have es : nS (setUs ns1 (H p) (nS ns1 (H p) - 1)) = upd (nS ns) (H p) (nS ns (H p) - 1) := by
      funext m
      rw [nS_setUs hH, s1, show nS ns1 = nS ns from funext s1]
    obtain ⟨k0, q, e2, g2, l2, t2, k2, o2, i2⟩ := downC_spec (eg := eg) hhp l (pre := pre ++ [H p]) (ns := setUs ns1 (H p) (nS ns1 (H p) - 1)) (o := if nS ns1 (H p) - 1 = 0 then o ++ [H p] else o) (by rw [setUs_len, l1, hN]) (g1.setUs hH _) (fun q hq => hl q (List.mem_cons_of_mem _ hq))
      (by
        split
        · rw [List.getElem?_append_left (get_lt ho)]; exact ho
        · exact ho)
      (by rw [he, List.map_cons, List.append_assoc]; rfl) (by rw [es, s1]; exact hs)
    refine ⟨max (r p + 1) k0, q, fun k hk => ?_, g2, l2, fun m => by rw [t2, nT_setUs hH, t1], fun m => by rw [k2, nK_setUs hH, k1], o2, i2⟩
    rw [downC, headC_le (show r p + 1 ≤ k by omega) e1]
    exact e2 k (by omega)
theorem sumTo_one : ∀ N : Nat, sumTo (fun _ => 1) N = N
  | 0 => rfl
  | N + 1 => by rw [sumTo, sumTo_one N]
theorem KI.len {N : Nat} {hp : Nat → Bool} {eg : Nat → List Nat} {i : Nat} {pre : List Nat} {u : Nat → Int} {o : List Nat} (h : KI N hp eg i pre u o) : o.length ≤ N := by
  have := (sumTo_list (N := N) o (fun _ => 1) h.nd fun g hg => (h.hd g hg).1).1
  rw [sumTo_one] at this
  have e : (o.map fun _ => 1).sum = o.length := by
    clear this h
    induction o with
    | nil => rfl
    | cons a o ih => rw [List.map_cons, List.sum_cons, ih, List.length_cons]; omega
  omega
theorem ordC_spec {H r : Nat → Nat} {E} {N : Nat} {hp : Nat → Bool} {eg : Nat → List Nat} (hhp : ∀ m, hp m = decide (H m = m)) : ∀ (M i : Nat) (c : Cl) (o : List Nat), N - i = M → c.ns.length = N → ClsC c H r E → Made c.ns H → (∀ g, g < N → egC c.ns H g = eg g) → i ≤ o.length → KI N hp eg i [] (nS c.ns) o → ∃ k0 q, (∀ k j, k0 ≤ k → k0 ≤ j → ordC k j i c o = some q) ∧ ClsC q.1 H r E ∧ q.1.ns.length = N ∧ (∀ m, nT q.1.ns m = nT c.ns m) ∧ (∀ m, nK q.1.ns m = nK c.ns m) ∧ q.1.vr = c.vr ∧ q.1.ps = c.ps ∧ KI N hp eg q.2.length [] (nS q.1.ns) q.2 := by
  intro M
  induction M using Nat.strongRecOn with
  | ind M ih =>
    intro i c o hM hN h hm heg hio hk
    cases ho : o[i]? with
    | none =>
      have hi : i = o.length := by have := List.getElem?_eq_none_iff.1 ho; omega
      refine ⟨1, (c, o), fun k j _ hj => ?_, h, hN, fun _ => rfl, fun _ => rfl, rfl, rfl, hi ▸ hk⟩
      obtain ⟨j', rfl⟩ : ∃ j', j = j' + 1 := ⟨j - 1, by omega⟩
      rw [ordC, ho]
    | some g =>
      have hl := get_lt ho
      have hlen := hk.len
      obtain ⟨g1, g2⟩ := hk.hd g (List.mem_of_getElem? ho)
      have hh : H g = g := by rw [hhp] at g2; exact of_decide_eq_true g2
      obtain ⟨p1, p2, p3⟩ := parts_made h hm (by omega) hh
      obtain ⟨k0, q, e1, c1, c2, c3, c4, c5, c6⟩ := downC_spec (vr := c.vr) (ps := c.ps) hhp (List.range' (pC c g).2.1 ((pC c g).2.2 - (pC c g).2.1)) (pre := []) hN h (by rw [← hN]; exact p3) ho (by rw [p2, heg g g1]; rfl) hk
      have hm' : Made q.1 H := fun m hm1 => by rw [c3, c4]; exact hm m (by rw [hN, ← c2]; exact hm1)
      obtain ⟨k1, q1, e2, d1, d2, d3, d4, d5, d6, d7⟩ := ih (N - (i + 1)) (by omega) (i + 1) ⟨q.1, c.vr, c.ps⟩ q.2 rfl c2 c1 hm' (fun g hg => by rw [← heg g hg]; unfold egC; rw [show nT (Cl.mk q.1 c.vr c.ps).ns g = nT c.ns g from c3 g, show nK (Cl.mk q.1 c.vr c.ps).ns g = nK c.ns g from c4 g]) (get_lt c5) (c6.next c5 rfl)
      refine ⟨max k0 k1 + 1, q1, fun k j hk hj => ?_, d1, d2, fun m => by rw [d3]; exact c3 m, fun m => by rw [d4]; exact c4 m, d5, d6, d7⟩
      obtain ⟨j', rfl⟩ : ∃ j', j = j' + 1 := ⟨j - 1, by omega⟩
      rw [ordC, ho]
      simp only
      rw [p1, e1 k (by omega)]
      exact e2 k j' (by omega) (by omega)
theorem CI.start {c : Cl} {H : Nat → Nat} {hs : List Nat} (h : CI c H c.ns.length hs) : KI c.ns.length (fun m => decide (H m = m)) (egC c.ns H) 0 [] (nS c.ns) (hs.filter fun n => decide (nS c.ns n = 0)) := by
  have hn : hs.Nodup := by rw [h.lst]; exact List.nodup_range.filter _
  have hd : ∀ x, nS c.ns x = (deg c.ns.length (fun m => decide (H m = m)) (egC c.ns H) x : Int) := fun x => by
    rw [h.us x, count_fm]
    have h1 := (sumTo_list (N := c.ns.length) hs (degO (fun m => decide (H m = m)) (egC c.ns H) x) hn fun g hg => (h.mem hg).1).2 fun g hg hgo => by
      unfold degO
      rw [if_neg]
      intro e
      exact hgo (by rw [h.lst, List.mem_filter]; exact ⟨List.mem_range.2 hg, e⟩)
    unfold deg
    rw [h1]
    congr 1
    exact sum_congr_nat fun s hs' => by unfold degO; rw [if_pos (decide_eq_true (h.mem hs').2)]
  have e : nS c.ns = fun x => (deg c.ns.length (fun m => decide (H m = m)) (egC c.ns H) x : Int) := funext hd
  have h2 := KI.start (N := c.ns.length) (hp := fun m => decide (H m = m)) (eg := egC c.ns H) (o := hs.filter fun n => decide (nS c.ns n = 0)) (hn.filter _) fun x => by
    rw [List.mem_filter, h.lst, List.mem_filter, List.mem_range, hd x]
    simp only [decide_eq_true_eq]
    constructor
    · rintro ⟨⟨a, b⟩, d⟩; exact ⟨a, b, by omega⟩
    · rintro ⟨a, b, d⟩; exact ⟨⟨a, b⟩, by omega⟩
  rw [← e] at h2
  exact h2
def tm0 : Tm := ⟨0, []⟩
def listC (k : Nat) (out : List Tm) : List Nat → List Nd → List Tm → Option (List Nd × List Tm)
  | [], ns, l => some (ns, l)
  | p :: ps, ns, l => match headC k ns p with
    | none => none
    | some q => listC k out ps q.1 (l ++ [out.getD q.2 tm0])
def termsC (k : Nat) : List Nat → Cl → List Tm → Option (Cl × List Tm)
  | [], c, out => some (c, out)
  | n :: o, c, out => match listC k out (List.range' (pC c n).2.1 ((pC c n).2.2 - (pC c n).2.1)) (pC c n).1.ns [] with
    | none => none
    | some q => termsC k o ⟨q.1, (pC c n).1.vr, (pC c n).1.ps⟩ (out.set n ⟨(nT q.1 n).f, q.2⟩)
theorem listC_spec {vr ps} {H r : Nat → Nat} {E} (out : List Tm) : ∀ (l : List Nat) {ns : List Nd} (ts : List Tm), ClsC ⟨ns, vr, ps⟩ H r E → (∀ p ∈ l, p < ns.length) → ∃ k0 ns', (∀ k, k0 ≤ k → listC k out l ns ts = some (ns', ts ++ (l.map H).map fun h => out.getD h tm0)) ∧ ClsC ⟨ns', vr, ps⟩ H r E ∧ ns'.length = ns.length ∧ (∀ m, nT ns' m = nT ns m) ∧ ∀ m, nK ns' m = nK ns m
  | [], ns, ts, h, _ => ⟨0, ns, fun _ _ => by rw [listC, List.map_nil, List.map_nil, List.append_nil], h, rfl, fun _ => rfl, fun _ => rfl⟩
  | p :: l, ns, ts, h, hl => by
    have hp := hl p (by simp)
    obtain ⟨ns1, e1, g1, l1, t1, k1, _⟩ := ClsC.head (r p + 1) h hp (by omega)
    obtain ⟨k0, ns2, e2, g2, l2, t2, k2⟩ := listC_spec out l (ts ++ [out.getD (H p) tm0]) g1 fun q hq => by rw [l1]; exact hl q (List.mem_cons_of_mem _ hq)
    refine ⟨max (r p + 1) k0, ns2, fun k hk => ?_, g2, by rw [l2, l1], fun m => by rw [t2, t1], fun m => by rw [k2, k1]⟩
    rw [listC, headC_le (show r p + 1 ≤ k by omega) e1]
    simp only
    rw [e2 k (by omega), List.map_cons, List.map_cons, List.append_assoc]
    rfl
def OutD (eg : Nat → List Nat) (T : Nat → Tm) (D : List Nat) (out : List Tm) : Prop := ∀ h ∈ D, out.getD h tm0 = ⟨(T h).f, (eg h).map fun x => out.getD x tm0⟩ ∧ ∀ x ∈ eg h, x ∈ D
theorem out_set {out : List Tm} {n m : Nat} {t : Tm} (h : n < out.length) : (out.set n t).getD m tm0 = if m = n then t else out.getD m tm0 := by
  rw [List.getD_eq_getElem?_getD, List.getElem?_set]
  by_cases e : m = n
  · subst e; rw [if_pos rfl, if_pos h, if_pos rfl]; rfl
  · rw [if_neg (Ne.symm e), if_neg e, List.getD_eq_getElem?_getD]
theorem OutD.step {eg : Nat → List Nat} {T : Nat → Tm} {D : List Nat} {out : List Tm} (h : OutD eg T D out) {n : Nat} (hn : n < out.length) (hD : n ∉ D) (he : ∀ x ∈ eg n, x ∈ D) : OutD eg T (n :: D) (out.set n ⟨(T n).f, (eg n).map fun x => out.getD x tm0⟩) := by
  have keep : ∀ {x}, x ∈ D → (out.set n ⟨(T n).f, (eg n).map fun x => out.getD x tm0⟩).getD x tm0 = out.getD x tm0 := fun {x} hx => by
    rw [out_set hn, if_neg (fun (e : x = n) => hD (e ▸ hx))]
  intro h' hh
  rcases List.mem_cons.1 hh with rfl | hh
  · refine ⟨?_, fun x hx => List.mem_cons_of_mem _ (he x hx)⟩
    rw [out_set hn, if_pos rfl]
    congr 1
    exact List.map_congr_left fun x hx => (keep (he x hx)).symm
  · obtain ⟨h1, h2⟩ := h h' hh
    refine ⟨?_, fun x hx => List.mem_cons_of_mem _ (h2 x hx)⟩
    rw [keep hh, h1]
    congr 1
    exact List.map_congr_left fun x hx => (keep (h2 x hx)).symm
theorem termsC_spec {H r : Nat → Nat} {E} {eg : Nat → List Nat} {T : Nat → Tm} : ∀ (R : List Nat) (D : List Nat) (c : Cl) (out : List Tm), ClsC c H r E → Made c.ns H → (∀ m, m < c.ns.length → nT c.ns m = T m) → (∀ g, g < c.ns.length → egC c.ns H g = eg g) → (∀ n ∈ R, n < c.ns.length ∧ H n = n) → R.Nodup → (∀ n ∈ R, n ∉ D) → (∀ pre n post, R = pre ++ n :: post → ∀ x ∈ eg n, x ∈ D ∨ x ∈ pre) → out.length = c.ns.length → OutD eg T D out → ∃ k0 q, (∀ k, k0 ≤ k → termsC k R c out = some q) ∧ ClsC q.1 H r E ∧ q.1.ns.length = c.ns.length ∧ (∀ m, nT q.1.ns m = nT c.ns m) ∧ (∀ m, nK q.1.ns m = nK c.ns m) ∧ q.1.vr = c.vr ∧ q.1.ps = c.ps ∧ q.2.length = out.length ∧ OutD eg T (R.reverse ++ D) q.2
  | [], D, c, out, h, _, _, _, _, _, _, _, hl, ho => ⟨0, (c, out), fun _ _ => rfl, h, rfl, fun _ => rfl, fun _ => rfl, rfl, rfl, rfl, ho⟩
  | n :: R, D, c, out, h, hm, hT, heg, hR, hn, hD, hb, hl, ho => by
    obtain ⟨n1, n2⟩ := hR n (by simp)
    obtain ⟨d1, d2⟩ := List.nodup_cons.1 hn
    obtain ⟨p1, p2, p3⟩ := parts_made h hm n1 n2
    obtain ⟨k0, ns1, e1, g1, l1, t1, k1⟩ := listC_spec (vr := c.vr) (ps := c.ps) out _ [] h p3
    rw [p2, heg n n1] at e1
    have hnD := hD n (by simp)
    have hen : ∀ x ∈ eg n, x ∈ D := fun x hx => (hb [] n R rfl x hx).resolve_right (by simp)
    have ho2 := ho.step (n := n) (by omega) hnD hen
    obtain ⟨k2, q, e2, c1, c2, c3, c4, c5, c6, c7, c8⟩ := termsC_spec R (n :: D) ⟨ns1, c.vr, c.ps⟩ (out.set n ⟨(T n).f, (eg n).map fun x => out.getD x tm0⟩) g1
      (fun m hm1 => by rw [show nT (Cl.mk ns1 c.vr c.ps).ns m = nT c.ns m from t1 m, show nK (Cl.mk ns1 c.vr c.ps).ns m = nK c.ns m from k1 m]; exact hm m (by rw [← l1]; exact hm1))
      (fun m hm1 => by rw [show nT (Cl.mk ns1 c.vr c.ps).ns m = nT c.ns m from t1 m]; exact hT m (by rw [← l1]; exact hm1))
      (fun g hg => by rw [← heg g (by rw [← l1]; exact hg)]; unfold egC; rw [show nT (Cl.mk ns1 c.vr c.ps).ns g = nT c.ns g from t1 g, show nK (Cl.mk ns1 c.vr c.ps).ns g = nK c.ns g from k1 g])
      (fun m hm1 => by have := hR m (List.mem_cons_of_mem _ hm1); exact ⟨by show m < ns1.length; rw [l1]; exact this.1, this.2⟩)
      d2
      (fun m hm1 hm2 => (List.mem_cons.1 hm2).elim (fun e => d1 (e ▸ hm1)) (hD m (List.mem_cons_of_mem _ hm1)))
      (fun pre m post e x hx => by
        rcases hb (n :: pre) m post (by rw [e]; rfl) x hx with h1 | h1
        · exact .inl (List.mem_cons_of_mem _ h1)
        · rcases List.mem_cons.1 h1 with rfl | h1
          · exact .inl (by simp)
          · exact .inr h1)
      (by rw [List.length_set, hl]; exact l1.symm) ho2
    refine ⟨max k0 k2, q, fun k hk => ?_, c1, by rw [c2]; exact l1, fun m => by rw [c3]; exact t1 m, fun m => by rw [c4]; exact k1 m, c5, c6, by rw [c7, List.length_set], ?_⟩
    · rw [termsC, p1, e1 k (by omega)]
      simp only
      rw [t1, hT n n1]
      exact e2 k (by omega)
    · rw [List.reverse_cons, List.append_assoc]; exact c8

theorem Cls.made {c : Cl} {H r : Nat → Nat} {E} (h : ClsC c H r E) (hp : c.ps = []) (hm : Made c.ns H) : Joined c.ns.length (nT c.ns) H (nK c.ns) E := by
  have h' : Cls c.ns.length (nT c.ns) (nK c.ns) (nU c.ns) H r c.vr [] E := by rw [← hp]; exact h
  refine Cls.joined h' fun n hn hf hz => ?_
  by_cases e : H n = n
  · exact hm n hn e hf hz
  · exact ((h.cls n hn hf e).2.2.1 hz).1
theorem end_no {c : Cl} {H r : Nat → Nat} {E} (h : ClsC c H r E) (hp : c.ps = []) (hm : Made c.ns H) {u : Nat → Int} {o : List Nat} (hk : KI c.ns.length (fun m => decide (H m = m)) (egC c.ns H) o.length [] u o) {x : Nat} (hx : x < c.ns.length) (hxx : H x = x) (hxo : x ∉ o) (τ : Int → Tm) : ¬ uni τ E := by
  refine (Cls.made h hp hm).no (O := fun y => y ∈ o) (fun y hy hyy hyo => ?_) hx hxx hxo τ
  obtain ⟨g, g1, g2, g3, g4⟩ := hk.over hy (decide_eq_true hyy) hyo
  refine ⟨g, g1, of_decide_eq_true g2, g3, ?_⟩
  unfold egC at g4
  split at g4
  · cases g4
  · rename_i hf
    obtain ⟨i, hi, e⟩ := List.mem_map.1 g4
    exact ⟨hf, i, List.mem_range.1 hi, e⟩
theorem end_mgu {c : Cl} {H r : Nat → Nat} {E} (h : ClsC c H r E) (hp : c.ps = []) (hm : Made c.ns H) {u : Nat → Int} {o : List Nat} (hk : KI c.ns.length (fun m => decide (H m = m)) (egC c.ns H) o.length [] u o) (ha : ∀ x, x < c.ns.length → H x = x → x ∈ o) {out : List Tm} (ho : OutD (egC c.ns H) (nT c.ns) o out) {s : List Bd} (hs : ∀ v, findB s v = (lookV c.vr v).map fun m => out.getD (H m) tm0) : Mgu (imgB s) E := by
  have j := Cls.made h hp hm
  obtain ⟨ρ, hρ⟩ := hk.rank fun x hx hxx => ha x hx (of_decide_eq_true hxx)
  refine j.mgu (ρ := ρ) (out := fun x => out.getD x tm0) (fun g hg hgg hf i hi => ?_) (fun g hg hgg => ?_) ⟨fun n hn hf => ?_, fun v hv hno => ?_⟩
  · obtain ⟨_, _, q3, q4⟩ := j.part hg hf hi
    refine hρ g hg (decide_eq_true hgg) _ ?_ q3 (decide_eq_true q4)
    unfold egC
    rw [if_neg hf]
    exact List.mem_map.2 ⟨i, List.mem_range.2 hi, rfl⟩
  · show out.getD g tm0 = _
    rw [(ho g (ha g hg hgg)).1]
    congr 1
    unfold egC
    split
    · rfl
    · rw [List.map_map]; rfl
  · obtain ⟨m, h1, h2⟩ := h.vrs n hn hf
    unfold imgB
    rw [hs, h1, h2]
    rfl
  · unfold imgB
    rw [hs]
    cases hl : lookV c.vr v with
    | none => rfl
    | some m =>
      obtain ⟨h1, h2⟩ := h.vrt v m hl
      exact absurd h2 (hno m h1)
theorem order_all {N : Nat} {H : Nat → Nat} {eg : Nat → List Nat} {u : Nat → Int} {o : List Nat} (hk : KI N (fun m => decide (H m = m)) eg o.length [] u o) : (o.length = ((List.range N).filter fun m => decide (H m = m)).length) ↔ ∀ x, x < N → H x = x → x ∈ o := by
  obtain ⟨hs, hhs⟩ : ∃ hs, hs = (List.range N).filter fun m => decide (H m = m) := ⟨_, rfl⟩
  rw [← hhs]
  have hn : hs.Nodup := by rw [hhs]; exact List.nodup_range.filter _
  have hmem : ∀ x, x ∈ hs ↔ x < N ∧ H x = x := fun x => by rw [hhs, List.mem_filter, List.mem_range, decide_eq_true_eq]
  have one : ∀ (L : List Nat), (∀ x ∈ L, H x = x) → (L.map fun x => if H x = x then 1 else 0).sum = L.length := fun L => by
    induction L with
    | nil => exact fun _ => rfl
    | cons a L ih => intro h; rw [List.map_cons, List.sum_cons, ih fun x hx => h x (List.mem_cons_of_mem _ hx), if_pos (h a (by simp)), List.length_cons]; omega
  have s1 := (sumTo_list (N := N) hs (fun x => if H x = x then 1 else 0) hn fun g hg => ((hmem g).1 hg).1).2 fun g hg hgo => if_neg fun e => hgo ((hmem g).2 ⟨hg, e⟩)
  rw [one hs fun x hx => ((hmem x).1 hx).2] at s1
  have oh : ∀ x ∈ o, x < N ∧ H x = x := fun x hx => ⟨(hk.hd x hx).1, of_decide_eq_true (hk.hd x hx).2⟩
  constructor
  · intro e x hx hxx
    apply Classical.byContradiction
    intro hxo
    have s2 := (sumTo_list (N := N) (x :: o) (fun x => if H x = x then 1 else 0) (List.nodup_cons.2 ⟨hxo, hk.nd⟩) fun g hg => (List.mem_cons.1 hg).elim (fun e => e ▸ hx) fun hg => (oh g hg).1).1
    rw [one (x :: o) fun y hy => (List.mem_cons.1 hy).elim (fun e => e ▸ hxx) fun hy => (oh y hy).2, List.length_cons] at s2
    omega
  · intro h
    have s2 := (sumTo_list (N := N) o (fun x => if H x = x then 1 else 0) hk.nd fun g hg => (oh g hg).1).2 fun g hg hgo => if_neg fun e => hgo (h g hg e)
    rw [one o fun y hy => (oh y hy).2] at s2
    omega
theorem order_back {N : Nat} {H : Nat → Nat} {eg : Nat → List Nat} {u : Nat → Int} {o : List Nat} (hk : KI N (fun m => decide (H m = m)) eg o.length [] u o) (ho : ∀ g ∈ o, ∀ x ∈ eg g, x ∈ o) : ∀ pre n post, o.reverse = pre ++ n :: post → ∀ x ∈ eg n, x ∈ ([] : List Nat) ∨ x ∈ pre := by
  intro pre n post e x hx
  have e2 : o = post.reverse ++ n :: pre.reverse := by
    have := congrArg List.reverse e
    rw [List.reverse_reverse, List.reverse_append, List.reverse_cons, List.append_assoc] at this
    exact this
  have hp : o[post.length]? = some n := by
    rw [e2, List.getElem?_append_right (by simp)]; simp
  have hxo : x ∈ o := ho n (List.mem_of_getElem? hp) x hx
  obtain ⟨q, hq⟩ := List.getElem?_of_mem hxo
  have h1 := hk.ord _ n (get_lt hp) hp x hx q hq
  rw [e2, List.getElem?_append_right (by simp; omega)] at hq
  simp only [List.length_reverse] at hq
  rw [show q - post.length = (q - post.length - 1) + 1 by omega, List.getElem?_cons_succ] at hq
  exact .inr (List.mem_reverse.1 (List.mem_of_getElem? hq))
def bndS (s : List Bd) (x : Int) (t : Tm) : List Bd := (s.map fun b => ⟨b.v, appR [⟨x, t⟩] b.t⟩) ++ [⟨x, t⟩]
def swC (a b : Tm) : Bool := (decide (0 ≤ a.f) && decide (b.f < 0)) || ((decide (a.f < 0) && decide (b.f < 0)) && decide (b.f < a.f))
def rUs (g : List Bd → Tm → Tm → Option (Option (List Bd))) : List (Tm × Tm) → List Bd → Option (Option (List Bd))
  | [], s => some (some s)
  | p :: ps, s => match g s p.1 p.2 with
    | none => none
    | some none => some none
    | some (some s') => rUs g ps s'
def rUgo (g : List Bd → Tm → Tm → Option (Option (List Bd))) (s : List Bd) (a b : Tm) : Option (Option (List Bd)) :=
  if a.f < 0 then (if -1 - a.f ∈ b.vs then some none else some (some (bndS s (-1 - a.f) b)))
  else if a.f ≠ b.f ∨ a.l.length ≠ b.l.length then some none
  else rUs g (a.l.zip b.l) s
def rU : Nat → List Bd → Tm → Tm → Option (Option (List Bd))
  | 0, _, _, _ => none
  | n + 1, s, a, b =>
    if sameT (appR s a) (appR s b) then some (some s)
    else if swC (appR s a) (appR s b) then rUgo (rU n) s (appR s b) (appR s a)
    else rUgo (rU n) s (appR s a) (appR s b)

theorem rUs_more {g g' : List Bd → Tm → Tm → Option (Option (List Bd))} (h : ∀ s a b r, g s a b = some r → g' s a b = some r) : ∀ (ps : List (Tm × Tm)) (s : List Bd) (r), rUs g ps s = some r → rUs g' ps s = some r
  | [], s, r, e => e
  | p :: ps, s, r, e => by
    rw [rUs] at e ⊢
    cases hg : g s p.1 p.2 with
    | none => rw [hg] at e; cases e
    | some q =>
      rw [hg] at e
      rw [h _ _ _ _ hg]
      cases q with
      | none => exact e
      | some s' => exact rUs_more h ps s' r e
theorem rUgo_more {g g' : List Bd → Tm → Tm → Option (Option (List Bd))} (h : ∀ s a b r, g s a b = some r → g' s a b = some r) (s : List Bd) (a b : Tm) (r) (e : rUgo g s a b = some r) : rUgo g' s a b = some r := by
  unfold rUgo at e ⊢
  split
  · rename_i h1; rw [if_pos h1] at e; exact e
  · rename_i h1
    rw [if_neg h1] at e
    split
    · rename_i h2; rw [if_pos h2] at e; exact e
    · rename_i h2
      rw [if_neg h2] at e
      exact rUs_more h _ _ _ e
theorem rU_succ : ∀ (n : Nat) (s : List Bd) (a b : Tm) (r), rU n s a b = some r → rU (n + 1) s a b = some r
  | 0, s, a, b, r, e => by cases e
  | n + 1, s, a, b, r, e => by
    rw [rU] at e ⊢
    split
    · rename_i h1; rw [if_pos h1] at e; exact e
    · rename_i h1
      rw [if_neg h1] at e
      split
      · rename_i h2; rw [if_pos h2] at e; exact rUgo_more (rU_succ n) _ _ _ _ e
      · rename_i h2; rw [if_neg h2] at e; exact rUgo_more (rU_succ n) _ _ _ _ e
theorem rU_le {n m : Nat} (h : n ≤ m) : ∀ (s : List Bd) (a b : Tm) (r), rU n s a b = some r → rU m s a b = some r := by
  induction h with
  | refl => exact fun _ _ _ _ e => e
  | step _ ih => exact fun s a b r e => rU_succ _ s a b r (ih s a b r e)

def bareB (s : List Bd) : Prop := ∀ b ∈ s, b.t.strip = b.t
theorem bare_img {s : List Bd} (h : bareB s) (v : Int) : (imgB s v).strip = imgB s v := by
  unfold imgB
  cases hf : findB s v with
  | none => exact varT_strip v
  | some t =>
    have : ∃ b ∈ s, b.t = t := by
      clear h
      induction s with
      | nil => cases hf
      | cons b s ih =>
        rw [findB] at hf
        split at hf
        · cases hf; exact ⟨b, by simp, rfl⟩
        · obtain ⟨c, hc, e⟩ := ih hf; exact ⟨c, List.mem_cons_of_mem _ hc, e⟩
    obtain ⟨b, hb, rfl⟩ := this
    exact h b hb
theorem appR_bare {s : List Bd} (h : bareB s) (t : Tm) : appR s t = repT (imgB s) t := by
  induction t using Tm.ind with
  | h f l ih =>
    by_cases hf : f < 0
    · rw [appR_var hf, repT_var hf, bare_img h]
    · rw [appR_sym hf, repT_sym hf]
      congr 1
      exact List.map_congr_left ih
theorem img_one (x : Int) (t : Tm) : imgB [⟨x, t⟩] = oneS x t := by
  funext v
  unfold imgB oneS
  rw [findB, findB]
  show (if x = v then some t else none).getD (varT v) = _
  by_cases h : x = v
  · rw [if_pos h, if_pos h.symm]; rfl
  · rw [if_neg h, if_neg (Ne.symm h)]; rfl
theorem bare_one {x : Int} {t : Tm} (h : t.strip = t) : bareB [⟨x, t⟩] := fun b hb => by
  rw [List.mem_singleton] at hb; rw [hb]; exact h
theorem bnd_bare {s : List Bd} {x : Int} {t : Tm} (ht : t.strip = t) : bareB (bndS s x t) := fun b hb => by
  rcases List.mem_append.1 hb with hb | hb
  · obtain ⟨c, hc, rfl⟩ := List.mem_map.1 hb
    show (appR _ _).strip = _
    rw [appR_bare (bare_one ht), rep_bare]
  · exact bare_one ht b hb
theorem findB_app1 (M : List Bd) : ∀ (L : List Bd) (v : Int), findB (L.map fun b => ⟨b.v, appR M b.t⟩) v = (findB L v).map (appR M)
  | [], _ => rfl
  | b :: L, v => by
    rw [List.map_cons, findB, findB]
    show (if b.v = v then _ else _) = _
    split
    · rfl
    · exact findB_app1 M L v
theorem img_bnd {s : List Bd} {x : Int} {t : Tm} (ht : t.strip = t) {v : Int} (hv : 0 ≤ v) : imgB (bndS s x t) v = repT (oneS x t) (imgB s v) := by
  unfold bndS imgB
  rw [findB_appd, findB_app1]
  cases hf : findB s v with
  | some u =>
    show appR _ u = repT _ u
    rw [appR_bare (bare_one ht), img_one]
  | none =>
    show (findB [⟨x, t⟩] v).getD (varT v) = repT _ (varT v)
    rw [rep_varT hv]
    have := congrFun (img_one x t) v
    unfold imgB at this
    rw [this]
    unfold oneS
    split
    · exact ht.symm
    · exact (varT_strip v).symm

def frN (V : List Int) (s : List Bd) : Nat := (V.filter fun v => decide ((imgB s v).f = -1 - v)).length
theorem filt_lt {V : List Int} {p q : Int → Bool} (h : ∀ v ∈ V, q v = true → p v = true) {x : Int} (hx : x ∈ V) (hp : p x = true) (hq : q x = false) : (V.filter q).length < (V.filter p).length := by
  have le : ∀ W : List Int, (∀ v ∈ W, q v = true → p v = true) → (W.filter q).length ≤ (W.filter p).length := fun W => by
    induction W with
    | nil => exact fun _ => Nat.le_refl _
    | cons a W ih =>
      intro h
      have h1 := ih fun v hv => h v (List.mem_cons_of_mem _ hv)
      have h2 := h a (by simp)
      rw [List.filter_cons, List.filter_cons]
      cases hqa : q a with
      | true => rw [if_pos rfl, if_pos (h2 hqa)]; simp only [List.length_cons]; omega
      | false =>
        rw [if_neg (by simp)]
        split
        · simp only [List.length_cons]; omega
        · exact h1
  induction V with
  | nil => cases hx
  | cons a V ih =>
    have h1 : ∀ v ∈ V, q v = true → p v = true := fun v hv => h v (List.mem_cons_of_mem _ hv)
    have h2 := h a (by simp)
    rw [List.filter_cons, List.filter_cons]
    by_cases e : x = a
    · subst e
      rw [hq, hp, if_neg (by simp), if_pos rfl, List.length_cons]
      have := le V h1
      omega
    · have hxV : x ∈ V := by
        rcases List.mem_cons.1 hx with h | h
        · exact absurd h e
        · exact h
      have h3 := ih h1 hxV
      cases hqa : q a with
      | true => rw [if_pos rfl, if_pos (h2 hqa)]; simp only [List.length_cons]; omega
      | false =>
        rw [if_neg (by simp)]
        split
        · simp only [List.length_cons]; omega
        · exact h3
theorem fr_bnd {V : List Int} (hV : ∀ v ∈ V, 0 ≤ v) {s : List Bd} {E : List (Tm × Tm)} (hm : Mgu (imgB s) E) {x : Int} (hx : x ∈ V) (hsx : imgB s x = varT x) {b : Tm} (hb : x ∉ (repT (imgB s) b).vs) : frN V (bndS s x (repT (imgB s) b)) < frN V s := by
  have hBs : (repT (imgB s) b).strip = repT (imgB s) b := rep_bare _ _
  refine filt_lt (fun v hv hq => ?_) hx ?_ ?_
  · have hv0 := hV v hv
    have hq := of_decide_eq_true hq
    rw [img_bnd hBs hv0] at hq
    refine decide_eq_true ?_
    have h1 : (imgB s v).f < 0 := var_of_rep (by rw [hq]; omega)
    rw [repT_var h1] at hq
    obtain ⟨w, hw⟩ : ∃ w, w = -1 - (imgB s v).f := ⟨_, rfl⟩
    rw [← hw] at hq
    by_cases e : w = x
    · unfold oneS at hq
      rw [if_pos e, Tm.strip_f] at hq
      have : imgB s v = varT v := hm.rep_vs (t := b) (by rw [Tm.vs_var (by rw [hq]; omega), hq, List.mem_singleton]; omega)
      rw [this, varT_f]
    · unfold oneS at hq
      rw [if_neg e, varT_strip, varT_f] at hq
      omega
  · exact decide_eq_true (by rw [hsx, varT_f])
  · have hx0 := hV x hx
    refine decide_eq_false fun e => ?_
    rw [img_bnd hBs hx0, hsx, rep_varT hx0] at e
    unfold oneS at e
    rw [if_pos rfl, hBs] at e
    exact hb (by rw [Tm.vs_var (by rw [e]; omega), e, List.mem_singleton]; omega)

def inV (V : List Int) (s : List Bd) : Prop := ∀ b ∈ s, ∀ u ∈ b.t.vs, u ∈ V
theorem img_inV {V : List Int} {s : List Bd} (h : inV V s) {v : Int} (hv : v ∈ V) (hv0 : 0 ≤ v) : ∀ u ∈ (imgB s v).vs, u ∈ V := by
  intro u hu
  unfold imgB at hu
  cases hf : findB s v with
  | none =>
    rw [hf] at hu
    rw [show (none : Option Tm).getD (varT v) = varT v from rfl, Tm.vs_var (by rw [varT_f]; omega), varT_f, List.mem_singleton] at hu
    rw [show u = v by omega]; exact hv
  | some t =>
    rw [hf] at hu
    have : ∃ b ∈ s, b.t = t := by
      clear h hu
      induction s with
      | nil => cases hf
      | cons b s ih =>
        rw [findB] at hf
        split at hf
        · cases hf; exact ⟨b, by simp, rfl⟩
        · obtain ⟨c, hc, e⟩ := ih hf; exact ⟨c, List.mem_cons_of_mem _ hc, e⟩
    obtain ⟨b, hb, rfl⟩ := this
    exact h b hb u hu
theorem rep_inV {V : List Int} {s : List Bd} (h : inV V s) {t : Tm} (ht : ∀ u ∈ t.vs, u ∈ V) : ∀ u ∈ (repT (imgB s) t).vs, u ∈ V := by
  intro u hu
  rw [repT_vs, List.mem_flatMap] at hu
  obtain ⟨v, hv, hu⟩ := hu
  exact img_inV h (ht v hv) (vs_nonneg _ v hv) u hu
theorem bnd_inV {V : List Int} {s : List Bd} (h : inV V s) {x : Int} {t : Tm} (hb : t.strip = t) (ht : ∀ u ∈ t.vs, u ∈ V) : inV V (bndS s x t) := by
  have h1 : inV V [⟨x, t⟩] := fun b hb' => by rw [List.mem_singleton] at hb'; rw [hb']; exact ht
  intro b hb' u hu
  rcases List.mem_append.1 hb' with hb' | hb'
  · obtain ⟨c, hc, rfl⟩ := List.mem_map.1 hb'
    have hu : u ∈ (appR [⟨x, t⟩] c.t).vs := hu
    rw [appR_bare (bare_one hb)] at hu
    exact rep_inV h1 (h c hc) u hu
  · exact h1 b hb' u hu

def RSpec (V : List Int) (E F : List (Tm × Tm)) (s : List Bd) (r : Option (List Bd)) : Prop := match r with
  | none => ∀ τ, ¬ uni τ (E ++ F)
  | some s' => Mgu (imgB s') (E ++ F) ∧ bareB s' ∧ inV V s' ∧ (s' = s ∨ frN V s' < frN V s)
theorem RSpec.eqv {V : List Int} {E F G : List (Tm × Tm)} {s : List Bd} {r : Option (List Bd)} (h : RSpec V E F s r) (he : ∀ τ, uni τ (E ++ F) ↔ uni τ (E ++ G)) : RSpec V E G s r := by
  cases r with
  | none => exact fun τ ht => h τ ((he τ).2 ht)
  | some s' => exact ⟨h.1.eqv he, h.2⟩
theorem map_zip_iff (g : Tm → Tm) : ∀ {l m : List Tm}, l.length = m.length → (l.map g = m.map g ↔ ∀ p ∈ l.zip m, g p.1 = g p.2)
  | [], [], _ => by simp
  | [], _ :: _, h => by simp at h
  | _ :: _, [], h => by simp at h
  | a :: l, b :: m, h => by
    rw [List.map_cons, List.map_cons, List.zip_cons_cons]
    simp only [List.cons.injEq, List.mem_cons, forall_eq_or_imp]
    rw [map_zip_iff g (by simpa using h)]
theorem rU_var {V : List Int} (hV : ∀ v ∈ V, 0 ≤ v) {s : List Bd} {E : List (Tm × Tm)} (hm : Mgu (imgB s) E) (hb : bareB s) (hi : inV V s) {a b : Tm} (ha : ∀ u ∈ a.vs, u ∈ V) (hbv : ∀ u ∈ b.vs, u ∈ V) (hf : (appR s a).f < 0) (hne : appR s a ≠ appR s b) (hlow : (appR s b).f < 0 → (appR s a).f ≤ (appR s b).f) (g) : ∃ r, rUgo g s (appR s a) (appR s b) = some r ∧ RSpec V E [(a, b)] s r := by
  rw [appR_bare hb, appR_bare hb] at *
  obtain ⟨x, hx⟩ : ∃ x, x = -1 - (repT (imgB s) a).f := ⟨_, rfl⟩
  have hx0 : 0 ≤ x := by omega
  have hA : repT (imgB s) a = varT x := by rw [hx]; exact bare_var (rep_bare _ _) hf
  unfold rUgo
  rw [if_pos hf, ← hx]
  by_cases hin : x ∈ (repT (imgB s) b).vs
  · rw [if_pos hin]
    refine ⟨_, rfl, fun τ ht => ?_⟩
    rw [uni_app, uni_one] at ht
    by_cases hbf : (repT (imgB s) b).f < 0
    · rw [Tm.vs_var hbf, List.mem_singleton] at hin
      apply hne
      rw [hA, bare_var (rep_bare _ _) hbf, ← hin]
    · apply no_occurs (τ := τ) hin hbf
      rw [← hA, hm.rep ht.1, hm.rep ht.1, ht.2]
  · rw [if_neg hin]
    have hxs : x ∈ (repT (imgB s) a).vs := by rw [hA, Tm.vs_var (by rw [varT_f]; omega), varT_f, List.mem_singleton]; omega
    refine ⟨_, rfl, hm.bind hx0 hA hin (fun h => by have := hlow h; omega) fun v hv => img_bnd (rep_bare _ _) hv, bnd_bare (rep_bare _ _), bnd_inV hi (rep_bare _ _) (rep_inV hi hbv), .inr ?_⟩
    exact fr_bnd hV hm (rep_inV hi ha x hxs) (hm.rep_vs hxs) hin
theorem rU_ends {V : List Int} (hV : ∀ v ∈ V, 0 ≤ v) : ∀ (N k : Nat) (s : List Bd) (a b : Tm) (E : List (Tm × Tm)), frN V s = N → (appR s a).size = k → Mgu (imgB s) E → bareB s → inV V s → (∀ u ∈ a.vs, u ∈ V) → (∀ u ∈ b.vs, u ∈ V) → ∃ n r, rU n s a b = some r ∧ RSpec V E [(a, b)] s r := by
  intro N
  induction N using Nat.strongRecOn with
  | ind N ihN =>
  intro k
  induction k using Nat.strongRecOn with
  | ind k ihk =>
  intro s a b E hN hk hm hb hi ha hbv
  cases hs : sameT (appR s a) (appR s b) with
  | true =>
    refine ⟨1, some s, by rw [rU, if_pos hs], ?_⟩
    rw [sameT_iff, appR_bare hb, appR_bare hb, rep_bare, rep_bare] at hs
    exact ⟨hm.same hs, hb, hi, .inl rfl⟩
  | false =>
  have hne : appR s a ≠ appR s b := fun e => by rw [e, (sameT_iff _ _).2 rfl] at hs; cases hs
  cases hw : swC (appR s a) (appR s b) with
  | true =>
    have hw' := hw
    unfold swC at hw'
    simp only [Bool.or_eq_true, Bool.and_eq_true, decide_eq_true_eq] at hw'
    obtain ⟨r, h1, h2⟩ := rU_var hV hm hb hi hbv ha (by omega) hne.symm (by omega) (rU 0)
    refine ⟨1, r, by rw [rU, hs, if_neg (by simp), if_pos hw, h1], h2.eqv fun τ => ?_⟩
    rw [uni_app, uni_app, uni_one, uni_one, eq_comm (a := repT τ b)]
  | false =>
  have hw' := hw
  unfold swC at hw'
  simp only [Bool.or_eq_false_iff, Bool.and_eq_false_iff, decide_eq_false_iff_not] at hw'
  by_cases hf : (appR s a).f < 0
  · obtain ⟨r, h1, h2⟩ := rU_var hV hm hb hi ha hbv hf hne (by omega) (rU 0)
    exact ⟨1, r, by rw [rU, hs, if_neg (by simp), hw, if_neg (by simp), h1], h2⟩
  have hf2 : ¬ (appR s b).f < 0 := by omega
  by_cases hc : (appR s a).f ≠ (appR s b).f ∨ (appR s a).l.length ≠ (appR s b).l.length
  · refine ⟨1, none, by rw [rU, hs, if_neg (by simp), hw, if_neg (by simp)]; unfold rUgo; rw [if_neg hf, if_pos hc], fun τ ht => ?_⟩
    rw [uni_app, uni_one, ] at ht
    have h3 := ht.2
    rw [← hm.rep ht.1 a, ← hm.rep ht.1 b, ← appR_bare hb, ← appR_bare hb, repT_sym hf, repT_sym hf2] at h3
    have h4 := congrArg Tm.f h3
    have h5 := congrArg (fun t => t.l.length) h3
    simp only [List.length_map] at h4 h5
    rcases hc with hc | hc
    · exact hc h4
    · exact hc h5
  -- the parts
  have hff : (appR s a).f = (appR s b).f := Decidable.byContradiction fun h => hc (.inl h)
  have hll : (appR s a).l.length = (appR s b).l.length := Decidable.byContradiction fun h => hc (.inr h)
  have loop : ∀ (ps : List (Tm × Tm)) (s1 : List Bd) (E1 : List (Tm × Tm)), (∀ p ∈ ps, p.1 ∈ (appR s a).l ∧ p.2 ∈ (appR s b).l) → Mgu (imgB s1) E1 → bareB s1 → inV V s1 → (s1 = s ∨ frN V s1 < frN V s) → ∃ n r, rUs (rU n) ps s1 = some r ∧ RSpec V E1 ps s1 r ∧ (∀ s', r = some s' → s' = s ∨ frN V s' < frN V s) := by
    intro ps
    induction ps with
    | nil =>
      intro s1 E1 _ hm1 hb1 hi1 hd
      refine ⟨0, some s1, rfl, ⟨by rw [List.append_nil]; exact hm1, hb1, hi1, .inl rfl⟩, fun s' e => ?_⟩
      cases e; exact hd
    | cons p ps ihp =>
      intro s1 E1 hps hm1 hb1 hi1 hd
      obtain ⟨hp1, hp2⟩ := hps p (by simp)
      have hva : ∀ u ∈ p.1.vs, u ∈ (appR s a).vs := fun u hu => by rw [Tm.vs_sym hf]; exact List.mem_flatMap.2 ⟨_, hp1, hu⟩
      have hvb : ∀ u ∈ p.2.vs, u ∈ (appR s b).vs := fun u hu => by rw [Tm.vs_sym hf2]; exact List.mem_flatMap.2 ⟨_, hp2, hu⟩
      have hva' : ∀ u ∈ p.1.vs, u ∈ V := fun u hu => by have := hva u hu; rw [appR_bare hb] at this; exact rep_inV hi ha u this
      have hvb' : ∀ u ∈ p.2.vs, u ∈ V := fun u hu => by have := hvb u hu; rw [appR_bare hb] at this; exact rep_inV hi hbv u this
      obtain ⟨n1, r1, e1, g1⟩ : ∃ n r, rU n s1 p.1 p.2 = some r ∧ RSpec V E1 [(p.1, p.2)] s1 r := by
        rcases hd with hd | hd
        · subst hd
          refine ihk _ ?_ s1 p.1 p.2 E1 hN rfl hm1 hb1 hi1 hva' hvb'
          rw [← hk]
          have h6 : appR s1 p.1 = p.1.strip := by
            rw [appR_bare hb1]
            exact rep_idem fun u hu => hm.rep_vs (t := a) (by rw [← appR_bare hb1]; exact hva u hu)
          rw [h6, Tm.strip_size]
          exact Tm.size_part (by rw [Tm.ps_of_sym (by omega)]; exact hp1)
        · exact ihN (frN V s1) (by omega) _ s1 p.1 p.2 E1 rfl rfl hm1 hb1 hi1 hva' hvb'
      cases r1 with
      | none =>
        refine ⟨n1, none, by rw [rUs, e1], fun τ ht => ?_, fun s' e => by cases e⟩
        refine g1 τ ?_
        rw [uni_app] at ht ⊢
        exact ⟨ht.1, fun q hq => ht.2 q (by rw [List.mem_singleton] at hq; rw [hq]; simp)⟩
      | some s2 =>
        obtain ⟨hm2, hb2, hi2, hd2⟩ := g1
        have hd3 : s2 = s ∨ frN V s2 < frN V s := by
          rcases hd2 with rfl | h7
          · exact hd
          · rcases hd with rfl | h8
            · exact .inr h7
            · exact .inr (by omega)
        obtain ⟨n2, r2, e2, g2, g3⟩ := ihp s2 (E1 ++ [(p.1, p.2)]) (fun q hq => hps q (List.mem_cons_of_mem _ hq)) hm2 hb2 hi2 hd3
        refine ⟨max n1 n2, r2, ?_, ?_, g3⟩
        · rw [rUs, rU_le (Nat.le_max_left n1 n2) _ _ _ _ e1]
          exact rUs_more (rU_le (Nat.le_max_right n1 n2)) _ _ _ e2
        · have e3 : E1 ++ [(p.1, p.2)] ++ ps = E1 ++ p :: ps := by rw [List.append_assoc]; rfl
          cases r2 with
          | none => intro τ ht; exact g2 τ (by rw [e3]; exact ht)
          | some s3 =>
            obtain ⟨c1, c2, c3, c4⟩ := g2
            refine ⟨by rw [← e3]; exact c1, c2, c3, ?_⟩
            rcases c4 with rfl | c4
            · exact hd2
            · rcases hd2 with rfl | h8
              · exact .inr c4
              · exact .inr (by omega)
  obtain ⟨n, r, e, g1, _⟩ := loop ((appR s a).l.zip (appR s b).l) s E (fun p hp => ⟨(List.of_mem_zip (a := p.1) (b := p.2) hp).1, (List.of_mem_zip (a := p.1) (b := p.2) hp).2⟩) hm hb hi (.inl rfl)
  refine ⟨n + 1, r, by rw [rU, hs, if_neg (by simp), hw, if_neg (by simp)]; unfold rUgo; rw [if_neg hf, if_neg hc, e], g1.eqv fun τ => ?_⟩
  rw [uni_app, uni_app, uni_one]
  refine and_congr_right fun ht => ?_
  rw [← hm.rep ht a, ← hm.rep ht b, ← appR_bare hb, ← appR_bare hb, repT_sym hf, repT_sym hf2]
  unfold uni
  rw [← map_zip_iff (repT τ) hll]
  rw [hff]
  simp
theorem findN (L : List Bd) {v : Int} (hv : 0 ≤ v) : findB (normF L) v = if idleB ⟨v, imgB L v⟩ then none else some (imgB L v).strip := by
  rw [findB_norm]
  unfold imgB
  cases findB L v with
  | none =>
    have : idleB ⟨v, (none : Option Tm).getD (varT v)⟩ = true := by
      show (decide ((varT v).f < 0) && decide (-1 - (varT v).f = v)) = true
      rw [varT_f, decide_eq_true (by omega), decide_eq_true (by omega)]; rfl
    rw [this, if_pos rfl]
  | some t => rfl
theorem srt_eqU : ∀ {A B : List Bd}, A.Pairwise (fun x y => x.v < y.v) → B.Pairwise (fun x y => x.v < y.v) → (∀ v, findB A v = findB B v) → A = B
  | [], [], _, _, _ => rfl
  | [], b :: B, _, _, h => by have := h b.v; rw [findB, findB, if_pos rfl] at this; cases this
  | a :: A, [], _, _, h => by
    have := h a.v
    rw [show findB (a :: A) a.v = some a.t by rw [findB, if_pos rfl]] at this
    cases this
  | a :: A, b :: B, hA, hB, h => by
    obtain ⟨a1, a2⟩ := List.pairwise_cons.1 hA
    obtain ⟨b1, b2⟩ := List.pairwise_cons.1 hB
    have e : a.v = b.v := by
      rcases Int.lt_trichotomy a.v b.v with h1 | h1 | h1
      · have := h a.v
        rw [findB, if_pos rfl, findB_none (l := b :: B) fun c hc => by
          rcases List.mem_cons.1 hc with rfl | hc
          · omega
          · have := b1 c hc; omega] at this
        cases this
      · exact h1
      · have := h b.v
        rw [findB_none (l := a :: A) fun c hc => by
          rcases List.mem_cons.1 hc with rfl | hc
          · omega
          · have := a1 c hc; omega] at this
        rw [findB, if_pos rfl] at this
        cases this
    have et : a.t = b.t := by
      have := h a.v
      rw [findB, if_pos rfl, findB, if_pos e.symm] at this
      exact Option.some.inj this
    have : A = B := srt_eqU a2 b2 fun v => by
      by_cases ev : a.v = v
      · rw [findB_none fun c hc => by have := a1 c hc; omega, findB_none fun c hc => by have := b1 c hc; omega]
      · have := h v
        rw [findB, if_neg ev, findB, if_neg (by rw [← e]; exact ev)] at this
        exact this
    rw [this]
    congr 1
    cases a; cases b
    simp only at e et
    rw [e, et]
theorem norm_one {L M : List Bd} (hL : ∀ b ∈ L, 0 ≤ b.v) (hM : ∀ b ∈ M, 0 ≤ b.v) (h : ∀ v, 0 ≤ v → imgB L v = imgB M v) : normF L = normF M := by
  refine srt_eqU (normF_srt L) (normF_srt M) fun v => ?_
  rcases Decidable.em (0 ≤ v) with hv | hv
  · rw [findN L hv, findN M hv, h v hv]
  · rw [findB_norm, findB_norm, findB_none fun b hb => by have := hL b hb; omega, findB_none fun b hb => by have := hM b hb; omega]
theorem mgu_norm {L M : List Bd} {E} (hL : ∀ b ∈ L, 0 ≤ b.v) (hM : ∀ b ∈ M, 0 ≤ b.v) (h1 : Mgu (imgB L) E) (h2 : Mgu (imgB M) E) : normF L = normF M :=
  norm_one hL hM fun v hv => h2.one h1 hv

theorem allR_spec {V : List Int} (hV : ∀ v ∈ V, 0 ≤ v) : ∀ (l : List (Tm × Tm)) (s : List Bd) (E : List (Tm × Tm)), Mgu (imgB s) E → bareB s → inV V s → (∀ p ∈ l, (∀ u ∈ p.1.vs, u ∈ V) ∧ ∀ u ∈ p.2.vs, u ∈ V) → ∃ n r, rUs (rU n) l s = some r ∧ (r = none → ∀ τ, ¬ uni τ (E ++ l)) ∧ ∀ s', r = some s' → Mgu (imgB s') (E ++ l) ∧ bareB s' ∧ inV V s'
  | [], s, E, hm, hb, hi, _ => ⟨0, some s, rfl, fun e => (by cases e), fun s' e => by cases e; exact ⟨by rw [List.append_nil]; exact hm, hb, hi⟩⟩
  | p :: l, s, E, hm, hb, hi, hl => by
    obtain ⟨v1, v2⟩ := hl p (by simp)
    obtain ⟨n1, r1, e1, g1⟩ := rU_ends hV _ _ s p.1 p.2 E rfl rfl hm hb hi v1 v2
    have e3 : E ++ [(p.1, p.2)] ++ l = E ++ p :: l := by rw [List.append_assoc]; rfl
    cases r1 with
    | none =>
      refine ⟨n1, none, by rw [rUs, e1], fun _ τ ht => ?_, fun s' e => (by cases e)⟩
      rw [← e3, uni_app] at ht
      exact g1 τ ht.1
    | some s1 =>
      obtain ⟨hm1, hb1, hi1, _⟩ := g1
      obtain ⟨n2, r2, e2, g2, g3⟩ := allR_spec hV l s1 (E ++ [(p.1, p.2)]) hm1 hb1 hi1 fun q hq => hl q (List.mem_cons_of_mem _ hq)
      refine ⟨max n1 n2, r2, ?_, by rw [← e3]; exact g2, by rw [← e3]; exact g3⟩
      rw [rUs, rU_le (Nat.le_max_left n1 n2) _ _ _ _ e1]
      exact rUs_more (rU_le (Nat.le_max_right n1 n2)) _ _ _ e2
theorem bnd_pos {s : List Bd} {x : Int} {t : Tm} (hs : ∀ b ∈ s, 0 ≤ b.v) (hx : 0 ≤ x) : ∀ b ∈ bndS s x t, 0 ≤ b.v := fun b hb => by
  rcases List.mem_append.1 hb with hb | hb
  · obtain ⟨c, hc, rfl⟩ := List.mem_map.1 hb; exact hs c hc
  · rw [List.mem_singleton] at hb; rw [hb]; exact hx
theorem rUs_pos {g : List Bd → Tm → Tm → Option (Option (List Bd))} (hg : ∀ s a b s', g s a b = some (some s') → (∀ b ∈ s, 0 ≤ b.v) → ∀ b ∈ s', 0 ≤ b.v) : ∀ (l : List (Tm × Tm)) (s s' : List Bd), rUs g l s = some (some s') → (∀ b ∈ s, 0 ≤ b.v) → ∀ b ∈ s', 0 ≤ b.v
  | [], s, s', e, h => by cases e; exact h
  | p :: l, s, s', e, h => by
    rw [rUs] at e
    cases h1 : g s p.1 p.2 with
    | none => rw [h1] at e; cases e
    | some q =>
      rw [h1] at e
      cases q with
      | none => cases e
      | some s1 => exact rUs_pos hg l s1 s' e (hg _ _ _ _ h1 h)
theorem rU_pos : ∀ (n : Nat) (s : List Bd) (a b : Tm) (s' : List Bd), rU n s a b = some (some s') → (∀ b ∈ s, 0 ≤ b.v) → ∀ b ∈ s', 0 ≤ b.v
  | 0, _, _, _, _, e, _ => by cases e
  | n + 1, s, a, b, s', e, h => by
    have go : ∀ x y, rUgo (rU n) s x y = some (some s') → ∀ b ∈ s', 0 ≤ b.v := fun x y e => by
      unfold rUgo at e
      split at e
      · rename_i hf
        split at e
        · cases e
        · cases e; exact bnd_pos h (by omega)
      · split at e
        · cases e
        · exact rUs_pos (rU_pos n) _ _ _ e h
    rw [rU] at e
    split at e
    · cases e; exact h
    · split at e
      · exact go _ _ e
      · exact go _ _ e

theorem CI.zero {c : Cl} {H : Nat → Nat} (h : ∀ x, nS c.ns x = 0) : CI c H 0 [] := ⟨Nat.zero_le _, rfl, fun m hm => by omega, fun x => by rw [h]; rfl⟩
theorem CI.made {c : Cl} {H : Nat → Nat} {hs : List Nat} (h : CI c H c.ns.length hs) : Made c.ns H := h.kid
theorem pairs_spec (l : List (Tm × Tm)) : ∃ k0 j, (∀ k, k0 ≤ k → joinAllC k l ⟨[], [], []⟩ = some j) ∧ (j.2 = false → ∀ τ, ¬ uni τ l) ∧ (j.2 = true → ∃ cn od H r, (∀ k, k0 ≤ k → countC k k 0 j.1 [] = some cn ∧ ordC k k 0 cn.1 (cn.2.filter fun n => decide (nS cn.1.ns n = 0)) = some od) ∧ ClsC od.1 H r l ∧ od.1.ps = [] ∧ Made od.1.ns H ∧ KI od.1.ns.length (fun m => decide (H m = m)) (egC od.1.ns H) od.2.length [] (nS od.1.ns) od.2 ∧ cn.2 = (List.range od.1.ns.length).filter (fun m => decide (H m = m)) ∧ (od.2.length ≠ cn.2.length → ∀ τ, ¬ uni τ l) ∧ (od.2.length = cn.2.length → ∃ k1 tm, (∀ k, k1 ≤ k → termsC k od.2.reverse od.1 (List.replicate od.1.ns.length tm0) = some tm) ∧ ClsC tm.1 H r l ∧ tm.1.vr = od.1.vr ∧ tm.1.ns.length = od.1.ns.length ∧ ∀ s : List Bd, (∀ v, findB s v = (lookV od.1.vr v).map fun m => tm.2.getD (H m) tm0) → Mgu (imgB s) l)) := by
  obtain ⟨k1, j, e1, t1, t2⟩ := joinAllC_spec l ⟨[], [], []⟩ (H := id) (r := id) (E := []) rfl Cls.nil
  rw [List.nil_append] at t1 t2
  cases hj : j.2 with
  | false => exact ⟨k1, j, fun k hk => joinAllC_le hk e1, fun _ => t1 hj, fun e => by rw [hj] at e; cases e⟩
  | true =>
    obtain ⟨hp, H0, r0, g0⟩ := t2 hj
    have hz : ∀ x, nS j.1.ns x = 0 := fun x => by rw [nS_all e1]; rfl
    obtain ⟨k2, cn, H, r, e2, g1, i1, p1⟩ := countC_spec _ 0 j.1 [] rfl g0 (CI.zero hz)
    obtain ⟨k3, od, e3, g2, l2, tt2, kk2, vv2, pp2, ki⟩ := ordC_spec (fun _ => rfl) _ 0 cn.1 _ rfl rfl g1 i1.made (fun _ _ => rfl) (Nat.zero_le _) i1.start
    have hm : Made od.1.ns H := fun m hm1 => by rw [tt2, kk2]; exact i1.made m (by rw [← l2]; exact hm1)
    have heg : egC od.1.ns H = egC cn.1.ns H := by funext g; unfold egC; rw [tt2, kk2]
    have ki' : KI od.1.ns.length (fun m => decide (H m = m)) (egC od.1.ns H) od.2.length [] (nS od.1.ns) od.2 := by rw [l2, heg]; exact ki
    have hps : od.1.ps = [] := by rw [pp2, p1]; exact hp
    have hcn : cn.2 = (List.range od.1.ns.length).filter (fun m => decide (H m = m)) := by rw [l2]; exact i1.lst
    have hall := order_all ki'
    rw [← hcn] at hall
    refine ⟨max k1 (max k2 k3), j, fun k hk => joinAllC_le (by omega) e1, fun e => (by rw [hj] at e; cases e), fun _ => ⟨cn, od, H, r, fun k hk => ⟨e2 k k (by omega) (by omega), e3 k k (by omega) (by omega)⟩, g2, hps, hm, ki', hcn, fun hne τ => ?_, fun he => ?_⟩⟩
    · have : ¬ ∀ x, x < od.1.ns.length → H x = x → x ∈ od.2 := fun h => hne (hall.2 h)
      apply Classical.byContradiction
      intro hu
      refine this fun x hx hxx => ?_
      apply Classical.byContradiction
      intro hxo
      exact end_no g2 hps hm ki' hx hxx hxo τ (Classical.byContradiction hu)
    · have ha := hall.1 he
      have j2 := Cls.made g2 hps hm
      have hin : ∀ g ∈ od.2, ∀ x ∈ egC od.1.ns H g, x ∈ od.2 := fun g hg x hx => by
        obtain ⟨q1, q2⟩ := ki'.hd g hg
        unfold egC at hx
        split at hx
        · cases hx
        · rename_i hf
          obtain ⟨i, hi, e⟩ := List.mem_map.1 hx
          obtain ⟨_, _, q3, q4⟩ := j2.part q1 hf (List.mem_range.1 hi)
          rw [← e]
          exact ha _ q3 q4
      obtain ⟨k4, tm, e4, c1, c2, c3, c4, c5, c6, c7, c8⟩ := termsC_spec (eg := egC od.1.ns H) (T := nT od.1.ns) od.2.reverse [] od.1 (List.replicate od.1.ns.length tm0) g2 hm (fun _ _ => rfl) (fun _ _ => rfl) (fun n hn => by
        obtain ⟨q1, q2⟩ := ki'.hd n (List.mem_reverse.1 hn)
        exact ⟨q1, of_decide_eq_true q2⟩) (by unfold List.Nodup; rw [List.pairwise_reverse]; exact ki'.nd.imp Ne.symm) (fun n _ hn => by cases hn) (order_back ki' hin) (by simp) (fun h hh => by cases hh)
      refine ⟨k4, tm, e4, c1, c5, c2, fun s hs => end_mgu g2 hps hm ki' ha ?_ hs⟩
      rw [List.reverse_reverse, List.append_nil] at c8
      exact c8
end Go.Proofs.YteegmcfobgpemaaGreat
namespace Go.Proofs.YteegmcfobgpemaaGreat
open Go.RowKit
set_option linter.unusedVariables false
set_option linter.unusedSimpArgs false
set_option maxRecDepth 100000
noncomputable abbrev Nd.cw (n : Nd) : CV := .row [n.t.cw, .i (n.fi : Int), .i (n.up : Int), .i n.us]
noncomputable def Nd.cv (n : Nd) : CV := n.cw
theorem Nd.map_at {l : List Nd} {i : Nat} {n : Nd} (h : l[i]? = some n) : (l.map Nd.cv)[i]? = some n.cw := by rw [List.getElem?_map, h]; rfl
theorem Nd.size_all (l : List Nd) : ∀ c ∈ l.map Nd.cv, c.size = 5 := by
  intro c hc
  obtain ⟨b, _, rfl⟩ := List.mem_map.1 hc
  rfl
noncomputable abbrev psw (p : Nat × Nat) : CV := .row [.i (p.1 : Int), .i (p.2 : Int)]
noncomputable def psv (p : Nat × Nat) : CV := psw p
theorem ps_at {l : List (Nat × Nat)} {i : Nat} {n : Nat × Nat} (h : l[i]? = some n) : (l.map psv)[i]? = some (psw n) := by rw [List.getElem?_map, h]; rfl
theorem ps_size (l : List (Nat × Nat)) : ∀ c ∈ l.map psv, c.size = 2 := by
  intro c hc
  obtain ⟨b, _, rfl⟩ := List.mem_map.1 hc
  rfl
noncomputable def vrv (p : Int × Nat) : CV := .row [.i p.1, .i (p.2 : Int)]
theorem vr_keys (l : List (Int × Nat)) : IntKeys .i64 (l.map vrv) := fun r hr => by
  obtain ⟨p, _, rfl⟩ := List.mem_map.1 hr
  exact ⟨p.1, .i p.2, rfl⟩
theorem vr_look (l : List (Int × Nat)) (v : Int) : lookR .i64 v (l.map vrv) = (lookV l v).map fun n : Nat => CV.i (n : Int) := by
  induction l with
  | nil => rfl
  | cons p l ih =>
    rw [List.map_cons, vrv, lookR_row, lookV]
    split
    · rfl
    · exact ih
theorem vr_put {l : List (Int × Nat)} {v : Int} {n : Nat} (h : lookV l v = none) : putR .i64 v (.i (n : Int)) (l.map vrv) = (l ++ [(v, n)]).map vrv := by
  have h1 : lookR .i64 v (l.map vrv) = none := by rw [vr_look, h]; rfl
  rw [(putR_spec (.i (n : Int)) (vr_keys l)).1 h1, List.map_append]
  rfl

noncomputable abbrev cstM (c : Cl) : AS := [(450001, .obj), (35500100, .sl 300001 0 c.ns.length 5), (35500101, .mref 300003), (35500102, .sl 300002 0 c.ps.length 2), (300001, .mrow 194 5 (c.ns.map Nd.cv)), (300003, .mp (c.vr.map vrv)), (300002, .mrow 207 2 (c.ps.map psv))]
noncomputable abbrev cstF (c : Cl) : AS := [(450001, .obj), (35500100, .sl 400001 0 c.ns.length 5), (35500101, .mref 300003), (35500102, .sl 300002 0 c.ps.length 2), (400001, .mrow 194 5 (c.ns.map Nd.cv)), (300003, .mp (c.vr.map vrv)), (300002, .mrow 207 2 (c.ps.map psv))]

theorem getD_at {l : List Nd} {n : Nat} {x : Nd} (h : l[n]? = some x) : l.getD n ndD = x := by rw [List.getD_eq_getElem?_getD, h]; rfl
theorem map_setUp {ns : List Nd} {n k : Nat} {x : Nd} (h : ns[n]? = some x) : (setUp ns n k).map Nd.cv = (ns.map Nd.cv).set n (Nd.cw { x with up := k }) := by
  unfold setUp
  rw [List.map_set, getD_at h]
  rfl
theorem map_setFi {ns : List Nd} {n k : Nat} {x : Nd} (h : ns[n]? = some x) : (setFi ns n k).map Nd.cv = (ns.map Nd.cv).set n (Nd.cw { x with fi := k }) := by
  unfold setFi
  rw [List.map_set, getD_at h]
  rfl
theorem map_setUs {ns : List Nd} {n : Nat} {k : Int} {x : Nd} (h : ns[n]? = some x) : (setUs ns n k).map Nd.cv = (ns.map Nd.cv).set n (Nd.cw { x with us := k }) := by
  unfold setUs
  rw [List.map_set, getD_at h]
  rfl
theorem nd_at {ns : List Nd} {n : Nat} (h : n < ns.length) : ∃ x, ns[n]? = some x := ⟨ns[n], List.getElem?_eq_getElem h⟩
theorem setUp_at {ns : List Nd} {n k : Nat} {x : Nd} (h : ns[n]? = some x) : (setUp ns n k)[n]? = some { x with up := k } := by
  unfold setUp
  have hl : n < ns.length := (List.getElem?_eq_some_iff.1 h).1
  rw [List.getElem?_set_self hl, getD_at h]
theorem setUpLen (ns : List Nd) (n k : Nat) : (setUp ns n k).length = ns.length := by unfold setUp; simp
def upOk (ns : List Nd) : Prop := ∀ m, m < ns.length → nU ns m < ns.length
theorem upOk.set {ns : List Nd} (h : upOk ns) {n k : Nat} (hk : k < ns.length) : upOk (setUp ns n k) := fun m hm => by
  rw [setUpLen] at hm ⊢
  unfold nU setUp
  rw [List.getD_eq_getElem?_getD, List.getElem?_set]
  split
  · split
    · exact hk
    · exact Nat.lt_of_le_of_lt (Nat.zero_le _) hm
  · rw [← List.getD_eq_getElem?_getD]; exact h m hm

-- 
set_option maxHeartbeats 2000000 in
theorem uHead_abs (vr : List (Int × Nat)) (ps : List (Nat × Nat)) (k : Nat) (ns : List Nd) (n : Nat) (r : List Nd × Nat) (hc : headC k ns n = some r) (hup : upOk ns) (hn : n < ns.length) (hl : ns.length ≤ 1000000) : AFunO Tryz.prog 156 (cstF ⟨ns, vr, ps⟩) [.bp 350001 0 [], .val (.i (n : Int))] (.val (.i (r.2 : Int))) (cstF ⟨r.1, vr, ps⟩) := by
  refine afunO_of Tryz.func156 Tryz.ntmps156 rfl rfl rfl rfl rfl rfl ?_
  intro w U hU
  refine aS (aR ?_)
  (refine nx (aA (gN rfl) rfl rfl rfl rfl rfl) rfl ?_)
  show AWp _ _ _ _ _ _ _
  refine aS (aB (awp_loop (fun j s => ∃ ns n, headC j ns n = some r ∧ upOk ns ∧ n < ns.length ∧ ns.length ≤ 1000000 ∧ s = (0, AV.bp 350001 0 []) :: (1, .val (.i (n : Int))) :: cstF ⟨ns, vr, ps⟩) (n := k) (s' := (0, AV.bp 350001 0 []) :: (1, .val (.i (n : Int))) :: cstF ⟨ns, vr, ps⟩) (wk_sub ⟨rfl, rfl, rfl, rfl, rfl, rfl, rfl, rfl, rfl, trivial⟩) ⟨ns, n, hc, hup, hn, hl, rfl⟩ ?_))
  rintro j s ⟨ns, n, hc, hup, hn, hl, rfl⟩
  cases j with
  | zero => cases hc
  | succ j =>
  rw [headC] at hc
  obtain ⟨x, hx⟩ := nd_at hn
  have hx' := Nd.map_at hx
  have hxu : nU ns n = x.up := by unfold nU; rw [getD_at hx]
  have hlm : (ns.map Nd.cv).length = ns.length := List.length_map ..
  refine aS (aS (aR ?_))
  (refine nx (aM (gN rfl) rfl rfl rfl rfl rfl) rfl ?_)
  (refine nx (aNc (gN rfl) rfl rfl rfl rfl rfl) rfl ?_)
  (refine nx (aF (gN rfl) rfl rfl rfl rfl rfl rfl rfl rfl rfl) rfl ?_)
  (refine nx (aLf (gN rfl) rfl rfl rfl rfl rfl rfl rfl rfl rfl rfl rfl rfl rfl) rfl ?_)
  (refine nx (aM (gN rfl) rfl rfl rfl rfl rfl) rfl ?_)
  (refine nx (aIm (k := n) (gN rfl) rfl rfl rfl rfl rfl rfl rfl rfl rfl (by first | rfl | omega | (simp only [List.length_set, List.length_map, List.length_append, List.length_cons, List.length_nil] <;> omega) | (simp <;> omega))) rfl ?_)
  (refine nx (a_fieldM (gN rfl) rfl rfl rfl rfl rfl rfl rfl rfl rfl) rfl ?_)
  (refine nx (a_loadM (gN rfl) rfl rfl rfl rfl rfl rfl rfl rfl (hx') rfl (by first | rfl | omega | (simp only [List.length_set, List.length_map, List.length_append, List.length_cons, List.length_nil] <;> omega) | (simp <;> omega)) rfl rfl) rfl ?_)
  (refine nx (aM (gN rfl) rfl rfl rfl rfl rfl) rfl ?_)
  (refine nx (a_neq (gN rfl) rfl rfl rfl rfl rfl rfl) rfl ?_)
  show AWp _ _ _ _ _ _ _
  refine aC rfl (fun hne => ?_) (fun hne => ?_)
  · have hne : x.up ≠ n := by
      intro e
      rw [e] at hne
      simp at hne
    rw [if_neg (by rw [hxu]; exact hne)] at hc
    have hy0 : x.up < ns.length := by rw [← hxu]; exact hup n hn
    obtain ⟨y, hy⟩ := nd_at hy0
    have hy' := Nd.map_at hy
    have hyu : nU ns (nU ns n) = y.up := by rw [hxu]; unfold nU; rw [getD_at hy]
    rw [hyu] at hc
    have hyl : y.up < ns.length := by rw [← hyu]; exact hup _ (by rw [hxu]; exact hy0)
    refine aK ?_
    show AWp _ _ _ _ _ _ _
    refine aB (aS (aD (by kernel_rfl) (by kernel_rfl) ?_))
    (refine nx (aM (gN rfl) rfl rfl rfl rfl rfl) rfl ?_)
    (refine nx (aNc (gN rfl) rfl rfl rfl rfl rfl) rfl ?_)
    (refine nx (aF (gN rfl) rfl rfl rfl rfl rfl rfl rfl rfl rfl) rfl ?_)
    (refine nx (aLf (gN rfl) rfl rfl rfl rfl rfl rfl rfl rfl rfl rfl rfl rfl rfl) rfl ?_)
    (refine nx (aM (gN rfl) rfl rfl rfl rfl rfl) rfl ?_)
    (refine nx (aM (gN rfl) rfl rfl rfl rfl rfl) rfl ?_)
    (refine nx (aNc (gN rfl) rfl rfl rfl rfl rfl) rfl ?_)
    (refine nx (aF (gN rfl) rfl rfl rfl rfl rfl rfl rfl rfl rfl) rfl ?_)
    (refine nx (aLf (gN rfl) rfl rfl rfl rfl rfl rfl rfl rfl rfl rfl rfl rfl rfl) rfl ?_)
    (refine nx (aM (gN rfl) rfl rfl rfl rfl rfl) rfl ?_)
    (refine nx (aNc (gN rfl) rfl rfl rfl rfl rfl) rfl ?_)
    (refine nx (aF (gN rfl) rfl rfl rfl rfl rfl rfl rfl rfl rfl) rfl ?_)
    (refine nx (aLf (gN rfl) rfl rfl rfl rfl rfl rfl rfl rfl rfl rfl rfl rfl rfl) rfl ?_)
    (refine nx (aM (gN rfl) rfl rfl rfl rfl rfl) rfl ?_)
    (refine nx (aIm (k := n) (gN rfl) rfl rfl rfl rfl rfl rfl rfl rfl rfl (by first | rfl | omega | (simp only [List.length_set, List.length_map, List.length_append, List.length_cons, List.length_nil] <;> omega) | (simp <;> omega))) rfl ?_)
    (refine nx (a_fieldM (gN rfl) rfl rfl rfl rfl rfl rfl rfl rfl rfl) rfl ?_)
    (refine nx (a_loadM (gN rfl) rfl rfl rfl rfl rfl rfl rfl rfl (hx') rfl (by first | rfl | omega | (simp only [List.length_set, List.length_map, List.length_append, List.length_cons, List.length_nil] <;> omega) | (simp <;> omega)) rfl rfl) rfl ?_)
    (refine nx (aIm (k := x.up) (gN rfl) rfl rfl rfl rfl rfl rfl rfl rfl rfl (by first | rfl | omega | (simp only [List.length_set, List.length_map, List.length_append, List.length_cons, List.length_nil] <;> omega) | (simp <;> omega))) rfl ?_)
    (refine nx (a_fieldM (gN rfl) rfl rfl rfl rfl rfl rfl rfl rfl rfl) rfl ?_)
    (refine nx (a_loadM (gN rfl) rfl rfl rfl rfl rfl rfl rfl rfl (hy') rfl (by first | rfl | omega | (simp only [List.length_set, List.length_map, List.length_append, List.length_cons, List.length_nil] <;> omega) | (simp <;> omega)) rfl rfl) rfl ?_)
    (refine nx (aIm (k := n) (gN rfl) rfl rfl rfl rfl rfl rfl rfl rfl rfl (by first | rfl | omega | (simp only [List.length_set, List.length_map, List.length_append, List.length_cons, List.length_nil] <;> omega) | (simp <;> omega))) rfl ?_)
    (refine nx (a_fieldM (gN rfl) rfl rfl rfl rfl rfl rfl rfl rfl rfl) rfl ?_)
    (refine nx (a_storeM (gN rfl) rfl rfl rfl rfl rfl rfl (hx') rfl rfl (by first | rfl | omega | (simp only [List.length_set, List.length_map, List.length_append, List.length_cons, List.length_nil] <;> omega) | (simp <;> omega)) rfl) rfl ?_)
    refine ⟨by kernel_rfl, ?_⟩
    show AWp _ _ _ _ _ _ _
    obtain ⟨ns1, h1⟩ : ∃ ns1, ns1 = setUp ns n y.up := ⟨_, rfl⟩
    have hm1 : ns1.map Nd.cv = (ns.map Nd.cv).set n (Nd.cw { x with up := y.up }) := by rw [h1]; exact map_setUp hx
    have hl1 : ns1.length = ns.length := by rw [h1, setUpLen]
    have hx1 : ns1[n]? = some { x with up := y.up } := by rw [h1]; exact setUp_at hx
    have hx1' := Nd.map_at hx1
    have hxu1 : nU ns1 n = y.up := by unfold nU; rw [getD_at hx1]
    rw [← h1, hxu1] at hc
    have hlm1 : (ns1.map Nd.cv).length = ns1.length := List.length_map ..
    refine AWp.wk (wk_sub (s' := (0, AV.bp 350001 0 []) :: (1, .val (.i (n : Int))) :: cstF ⟨ns1, vr, ps⟩) ⟨rfl, rfl, rfl, ?_, rfl, rfl, ?_, rfl, rfl, trivial⟩) ?_
    · show _ = some (AV.sl 400001 0 ns1.length 5); rw [hl1]; rfl
    · show _ = some (AV.mrow 194 5 (ns1.map Nd.cv)); rw [hm1]; rfl
    refine aR ?_
    (refine nx (aM (gN rfl) rfl rfl rfl rfl rfl) rfl ?_)
    (refine nx (aNc (gN rfl) rfl rfl rfl rfl rfl) rfl ?_)
    (refine nx (aF (gN rfl) rfl rfl rfl rfl rfl rfl rfl rfl rfl) rfl ?_)
    (refine nx (aLf (gN rfl) rfl rfl rfl rfl rfl rfl rfl rfl rfl rfl rfl rfl rfl) rfl ?_)
    (refine nx (aM (gN rfl) rfl rfl rfl rfl rfl) rfl ?_)
    (refine nx (aIm (k := n) (gN rfl) rfl rfl rfl rfl rfl rfl rfl rfl rfl (by first | rfl | omega | (simp only [List.length_set, List.length_map, List.length_append, List.length_cons, List.length_nil] <;> omega) | (simp <;> omega))) rfl ?_)
    (refine nx (a_fieldM (gN rfl) rfl rfl rfl rfl rfl rfl rfl rfl rfl) rfl ?_)
    (refine nx (a_loadM (gN rfl) rfl rfl rfl rfl rfl rfl rfl rfl (hx1') rfl (by first | rfl | omega | (simp only [List.length_set, List.length_map, List.length_append, List.length_cons, List.length_nil] <;> omega) | (simp <;> omega)) rfl rfl) rfl ?_)
    (refine nx (aA (gN rfl) rfl rfl rfl rfl rfl) rfl ?_)
    exact ⟨j, (0, AV.bp 350001 0 []) :: (1, .val (.i (y.up : Int))) :: cstF ⟨ns1, vr, ps⟩, by omega, ⟨ns1, y.up, hc, by rw [h1]; exact hup.set hyl, by rw [hl1]; exact hyl, by rw [hl1]; exact hl, rfl⟩, wk_sub ⟨rfl, rfl, rfl, rfl, rfl, rfl, rfl, rfl, rfl, trivial⟩⟩
  · have hne : x.up = n := by
      have := of_decide_eq_false hne
      simp only [ne_eq, Decidable.not_not] at this
      omega
    rw [if_pos (by rw [hxu]; exact hne)] at hc
    cases hc
    refine aE ?_
    show AWp _ _ _ _ _ _ _
    refine aS (aR ?_)
    (refine nx (aM (gN rfl) rfl rfl rfl rfl rfl) rfl ?_)
    (refine nx (aA (gN rfl) rfl rfl rfl rfl rfl) rfl ?_)
    show AWp _ _ _ _ _ _ _
    exact aT ⟨.inr rfl, _, Wk.refl _, rfl, rfl, rfl, rfl, rfl, rfl, rfl, rfl, trivial⟩
-- 
theorem uPush_abs (c : Cl) (x y : Nat) (hl : c.ps.length ≤ 100000000) : AFunO Tryz.prog 150 (cstM c) [.bp 350001 0 [], .val (.i (x : Int)), .val (.i (y : Int))] (.tup []) (cstM ⟨c.ns, c.vr, c.ps ++ [(x, y)]⟩) := by
  have hsz := ps_size c.ps
  have hlm : (c.ps.map psv).length = c.ps.length := List.length_map ..
  refine afunO_of Tryz.func150 Tryz.ntmps150 rfl rfl rfl rfl rfl rfl ?_
  intro w U hU
  refine aR ?_
  (refine nx (aM (gN rfl) rfl rfl rfl rfl rfl) rfl ?_)
  (refine nx (aM (gN rfl) rfl rfl rfl rfl rfl) rfl ?_)
  (refine nx (aNc (gN rfl) rfl rfl rfl rfl rfl) rfl ?_)
  (refine nx (aF (gN rfl) rfl rfl rfl rfl rfl rfl rfl rfl rfl) rfl ?_)
  (refine nx (aLf (gN rfl) rfl rfl rfl rfl rfl rfl rfl rfl rfl rfl rfl rfl rfl) rfl ?_)
  (refine nx (aM (gN rfl) rfl rfl rfl rfl rfl) rfl ?_)
  (refine nx (aM (gN rfl) rfl rfl rfl rfl rfl) rfl ?_)
  (refine nx (a_buildA [1, 1] (gN rfl) rfl rfl rfl rfl rfl rfl rfl rfl rfl rfl rfl rfl) rfl ?_)
  (refine nx (a_bslice (gN rfl) rfl rfl rfl rfl rfl rfl rfl rfl rfl rfl rfl rfl rfl) rfl ?_)
  (refine nx (a_appM 300015 (gN rfl) rfl rfl rfl rfl rfl rfl rfl rfl rfl rfl rfl rfl rfl (by first | rfl | omega | (simp only [List.length_set, List.length_map, List.length_append, List.length_cons, List.length_nil] <;> omega) | (simp <;> omega)) (by first | assumption | exact sZ rfl | exact Tm.size_all _ | exact Bd.size_all _ | exact ints_size _ | exact bys_size _ | exact Lt.size_all _) (by first | omega | (simp only [List.length_map, List.length_append, List.length_cons, List.length_nil] <;> omega) | (simp <;> omega))) (by kernel_rfl) ?_)
  (refine nx (aNc (gN rfl) rfl rfl rfl rfl rfl) rfl ?_)
  (refine nx (aF (gN rfl) rfl rfl rfl rfl rfl rfl rfl rfl rfl) rfl ?_)
  (refine nx (a_store_fld (gN rfl) rfl rfl rfl rfl rfl rfl rfl rfl rfl rfl rfl rfl) rfl ?_)
  refine ⟨.inl rfl, _, (wk_sub (s' := [(450001, .obj), (35500100, .sl 300001 0 c.ns.length 5), (35500101, .mref 300003), (35500102, .sl 300015 0 (c.ps ++ [(x, y)]).length 2), (300001, .mrow 194 5 (c.ns.map Nd.cv)), (300003, .mp (c.vr.map vrv)), (300015, .mrow 207 2 ((c.ps ++ [(x, y)]).map psv))]) ⟨rfl, rfl, rfl, ?_, rfl, rfl, ?_, trivial⟩).trans (wk_ren 300015 300002 rfl rfl (by kernel_rfl) (by kernel_rfl)), rfl, rfl, rfl, rfl, rfl, rfl, rfl, rfl, trivial⟩
  · rw [List.length_append, ← List.length_map (f := psv)]; rfl
  · rw [List.map_append]; rfl
-- 
set_option maxHeartbeats 1000000 in
theorem uPop_abs (c : Cl) (p : Nat × Nat) (hp : c.ps.getLast? = some p) (hl : c.ps.length ≤ 100000000) : AFunO Tryz.prog 153 (cstM c) [.bp 350001 0 []] (.tup [.i (p.1 : Int), .i (p.2 : Int)]) (cstM ⟨c.ns, c.vr, c.ps.dropLast⟩) := by
  have hpos : 0 < c.ps.length := by
    cases h : c.ps with
    | nil => rw [h] at hp; cases hp
    | cons a l => simp
  have hlast : c.ps[c.ps.length - 1]? = some p := by rw [← List.getLast?_eq_getElem?]; exact hp
  have hx' := ps_at hlast
  have hlm : (c.ps.map psv).length = c.ps.length := List.length_map ..
  have hcast : ((c.ps.length : Nat) : Int) - 1 = ((c.ps.length - 1 : Nat) : Int) := by omega
  refine afunO_of Tryz.func153 Tryz.ntmps153 rfl rfl rfl rfl rfl rfl ?_
  intro w U hU
  refine aS (aR ?_)
  (refine nx (aA (gN rfl) rfl rfl rfl rfl rfl) rfl ?_)
  (refine nx (aA (gN rfl) rfl rfl rfl rfl rfl) rfl ?_)
  show AWp _ _ _ _ _ _ _
  refine aS (aR ?_)
  (refine nx (aM (gN rfl) rfl rfl rfl rfl rfl) rfl ?_)
  (refine nx (aNc (gN rfl) rfl rfl rfl rfl rfl) rfl ?_)
  (refine nx (aF (gN rfl) rfl rfl rfl rfl rfl rfl rfl rfl rfl) rfl ?_)
  (refine nx (aLf (gN rfl) rfl rfl rfl rfl rfl rfl rfl rfl rfl rfl rfl rfl rfl) rfl ?_)
  (refine nx (a_lenM (gN rfl) rfl rfl rfl rfl rfl rfl rfl) rfl ?_)
  (refine nx (a_sub (gN rfl) rfl rfl rfl rfl rfl rfl (by first | omega | (simp only [List.length_map, List.length_append, List.length_cons, List.length_nil] <;> omega) | (simp <;> omega))) rfl ?_)
  (refine nx (aA (gN rfl) rfl rfl rfl rfl rfl) rfl ?_)
  show AWp _ _ _ _ _ _ _
  refine AWp.wk (wk_sub (s' := (0, AV.bp 350001 0 []) :: (4, .val (.i ((c.ps.length - 1 : Nat) : Int))) :: cstM c) ⟨rfl, ?_, rfl, rfl, rfl, rfl, rfl, rfl, rfl, trivial⟩) ?_
  · rw [← hcast]; rfl
  refine aS (aR ?_)
  (refine nx (aM (gN rfl) rfl rfl rfl rfl rfl) rfl ?_)
  (refine nx (aNc (gN rfl) rfl rfl rfl rfl rfl) rfl ?_)
  (refine nx (aF (gN rfl) rfl rfl rfl rfl rfl rfl rfl rfl rfl) rfl ?_)
  (refine nx (aLf (gN rfl) rfl rfl rfl rfl rfl rfl rfl rfl rfl rfl rfl rfl rfl) rfl ?_)
  (refine nx (aM (gN rfl) rfl rfl rfl rfl rfl) rfl ?_)
  (refine nx (aIm (k := (c.ps.length - 1)) (gN rfl) rfl rfl rfl rfl rfl rfl rfl rfl rfl (by first | rfl | omega | (simp only [List.length_set, List.length_map, List.length_append, List.length_cons, List.length_nil] <;> omega) | (simp <;> omega))) rfl ?_)
  (refine nx (a_loadM (gN rfl) rfl rfl rfl rfl rfl rfl rfl rfl (hx') rfl (by first | rfl | omega | (simp only [List.length_set, List.length_map, List.length_append, List.length_cons, List.length_nil] <;> omega) | (simp <;> omega)) rfl rfl) rfl ?_)
  (refine nx (a_allocA [1, 1] (gN rfl) rfl rfl rfl rfl rfl rfl rfl) (by kernel_rfl) ?_)
  (refine nx (aSt (gN rfl) rfl rfl rfl rfl rfl rfl rfl rfl rfl rfl) rfl ?_)
  show AWp _ _ _ _ _ _ _
  refine aS (aR ?_)
  (refine nx (aM (gN rfl) rfl rfl rfl rfl rfl) rfl ?_)
  (refine nx (aM (gN rfl) rfl rfl rfl rfl rfl) rfl ?_)
  (refine nx (aNc (gN rfl) rfl rfl rfl rfl rfl) rfl ?_)
  (refine nx (aF (gN rfl) rfl rfl rfl rfl rfl rfl rfl rfl rfl) rfl ?_)
  (refine nx (aLf (gN rfl) rfl rfl rfl rfl rfl rfl rfl rfl rfl rfl rfl rfl rfl) rfl ?_)
  (refine nx (aM (gN rfl) rfl rfl rfl rfl rfl) rfl ?_)
  (refine nx (a_uptoM (j := (c.ps.length - 1)) (gN rfl) rfl rfl rfl rfl rfl rfl rfl rfl (by first | rfl | omega | (simp only [List.length_set, List.length_map, List.length_append, List.length_cons, List.length_nil] <;> omega) | (simp <;> omega)) (by first | rfl | omega | (simp only [List.length_set, List.length_map, List.length_append, List.length_cons, List.length_nil] <;> omega) | (simp <;> omega))) rfl ?_)
  (refine nx (aNc (gN rfl) rfl rfl rfl rfl rfl) rfl ?_)
  (refine nx (aF (gN rfl) rfl rfl rfl rfl rfl rfl rfl rfl rfl) rfl ?_)
  (refine nx (a_store_fld (gN rfl) rfl rfl rfl rfl rfl rfl rfl rfl rfl rfl rfl rfl) rfl ?_)
  show AWp _ _ _ _ _ _ _
  refine AWp.wk ((wk_sub (s' := [(5, AV.bp 5 0 []), (100005, .bx (psw p)), (450001, .obj), (35500100, .sl 300001 0 c.ns.length 5), (35500101, .mref 300003), (35500102, .sl 300002 0 (c.ps.length - 1) 2), (300001, .mrow 194 5 (c.ns.map Nd.cv)), (300003, .mp (c.vr.map vrv)), (300002, .mrow 207 2 (c.ps.map psv))]) ⟨rfl, rfl, rfl, rfl, rfl, rfl, rfl, rfl, rfl, trivial⟩).trans (wk_cut 300002 (c.ps.length - 1) rfl rfl (by rw [List.length_map]; omega) (by kernel_rfl))) ?_
  refine aS (aD (by kernel_rfl) (by kernel_rfl) ?_)
  (refine nx (a_idxA 0 (gN rfl) rfl rfl rfl rfl rfl rfl rfl rfl rfl rfl) rfl ?_)
  (refine nx (aLb (gN rfl) rfl rfl rfl rfl rfl rfl rfl rfl rfl rfl rfl rfl) rfl ?_)
  (refine nx (a_idxA 1 (gN rfl) rfl rfl rfl rfl rfl rfl rfl rfl rfl rfl) rfl ?_)
  (refine nx (aLb (gN rfl) rfl rfl rfl rfl rfl rfl rfl rfl rfl rfl rfl rfl) rfl ?_)
  (refine nx (aA (gN rfl) rfl rfl rfl rfl rfl) rfl ?_)
  (refine nx (aA (gN rfl) rfl rfl rfl rfl rfl) rfl ?_)
  refine ⟨by kernel_rfl, ?_⟩
  show AWp _ _ _ _ _ _ _
  refine aT ⟨.inr rfl, _, Wk.refl _, rfl, rfl, rfl, rfl, ?_, rfl, rfl, ?_, trivial⟩
  · show _ = some (AV.sl 300002 0 c.ps.dropLast.length 2)
    rw [List.length_dropLast]; rfl
  · show _ = some (AV.mrow 207 2 (c.ps.dropLast.map psv))
    rw [List.dropLast_eq_take, List.map_take]; rfl
-- 
theorem uIsVar_abs (W : World) (t : Tm) : AFun Tryz.prog W 171 [t.cw] (.val (.b (decide (t.f < 0)))) := by
  refine afun_of (rs := [.b (decide (t.f < 0))]) Tryz.func171 Tryz.ntmps171 rfl rfl rfl rfl ?_
  intro w U hW
  refine aS (aR ?_)
  (refine nx (a_box (gN rfl) rfl rfl rfl rfl rfl) rfl ?_)
  (refine nx (aA (gN rfl) rfl rfl rfl rfl rfl) rfl ?_)
  show AWp _ _ _ _ _ _ _
  refine aS (aR ?_)
  (refine nx (aF (gN rfl) rfl rfl rfl rfl rfl rfl rfl rfl rfl) rfl ?_)
  (refine nx (aLb (gN rfl) rfl rfl rfl rfl rfl rfl rfl rfl rfl rfl rfl rfl) rfl ?_)
  (refine nx (a_lss (gN rfl) rfl rfl rfl rfl rfl rfl) rfl ?_)
  (refine nx (aA (gN rfl) rfl rfl rfl rfl rfl) rfl ?_)
  show AWp _ _ _ _ _ _ _
  exact aT ⟨.inr rfl, rfl⟩
-- 
theorem uNumber_abs (W : World) (t : Tm) (h1 : -9223372036854775808 ≤ t.f) (h2 : t.f < 0) : AFun Tryz.prog W 172 [t.cw] (.val (.i (-1 - t.f))) := by
  refine afun_of (rs := [.i (-1 - t.f)]) Tryz.func172 Tryz.ntmps172 rfl rfl rfl rfl ?_
  intro w U hW
  refine aS (aR ?_)
  (refine nx (a_box (gN rfl) rfl rfl rfl rfl rfl) rfl ?_)
  (refine nx (aA (gN rfl) rfl rfl rfl rfl rfl) rfl ?_)
  show AWp _ _ _ _ _ _ _
  refine aS (aR ?_)
  (refine nx (aF (gN rfl) rfl rfl rfl rfl rfl rfl rfl rfl rfl) rfl ?_)
  (refine nx (aLb (gN rfl) rfl rfl rfl rfl rfl rfl rfl rfl rfl rfl rfl rfl) rfl ?_)
  (refine nx (a_sub (gN rfl) rfl rfl rfl rfl rfl rfl (by first | omega | (simp only [List.length_map, List.length_append, List.length_cons, List.length_nil] <;> omega) | (simp <;> omega))) rfl ?_)
  (refine nx (aA (gN rfl) rfl rfl rfl rfl rfl) rfl ?_)
  show AWp _ _ _ _ _ _ _
  exact aT ⟨.inr rfl, rfl⟩
theorem snoc_at (l : List Nd) (x : Nd) : (l ++ [x])[l.length]? = some x := by simp
-- 
set_option maxHeartbeats 2000000 in
theorem uAdd_abs (c : Cl) (t : Tm) (ht : t.rng) (hl : c.ns.length ≤ 1000000) : AFunO Tryz.prog 151 (cstM c) [.bp 350001 0 [], .val t.cw] (.val (.i (c.ns.length : Int))) (cstM (addC c t)) := by
  have htr := (Tm.rng_iff _).1 ht
  have hsz := Nd.size_all c.ns
  have hlm : (c.ns.map Nd.cv).length = c.ns.length := List.length_map ..
  refine afunO_of Tryz.func151 Tryz.ntmps151 rfl rfl rfl rfl rfl rfl ?_
  intro w U hU
  refine aS (aR ?_)
  (refine nx (a_box (gN rfl) rfl rfl rfl rfl rfl) (by kernel_rfl) ?_)
  (refine nx (aA (gN rfl) rfl rfl rfl rfl rfl) rfl ?_)
  show AWp _ _ _ _ _ _ _
  refine aS (aR ?_)
  (refine nx (aM (gN rfl) rfl rfl rfl rfl rfl) rfl ?_)
  (refine nx (aNc (gN rfl) rfl rfl rfl rfl rfl) rfl ?_)
  (refine nx (aF (gN rfl) rfl rfl rfl rfl rfl rfl rfl rfl rfl) rfl ?_)
  (refine nx (aLf (gN rfl) rfl rfl rfl rfl rfl rfl rfl rfl rfl rfl rfl rfl rfl) rfl ?_)
  (refine nx (a_lenM (gN rfl) rfl rfl rfl rfl rfl rfl rfl) rfl ?_)
  (refine nx (aA (gN rfl) rfl rfl rfl rfl rfl) rfl ?_)
  show AWp _ _ _ _ _ _ _
  refine aS (aD (by kernel_rfl) (by kernel_rfl) ?_)
  (refine nx (aM (gN rfl) rfl rfl rfl rfl rfl) rfl ?_)
  (refine nx (aM (gN rfl) rfl rfl rfl rfl rfl) rfl ?_)
  (refine nx (aNc (gN rfl) rfl rfl rfl rfl rfl) rfl ?_)
  (refine nx (aF (gN rfl) rfl rfl rfl rfl rfl rfl rfl rfl rfl) rfl ?_)
  (refine nx (aLf (gN rfl) rfl rfl rfl rfl rfl rfl rfl rfl rfl rfl rfl rfl rfl) rfl ?_)
  (refine nx (aL (gN rfl) rfl rfl rfl rfl rfl rfl rfl rfl rfl rfl rfl rfl) rfl ?_)
  (refine nx (aM (gN rfl) rfl rfl rfl rfl rfl) rfl ?_)
  (refine nx (a_build (gN rfl) rfl rfl rfl rfl rfl rfl rfl rfl rfl rfl rfl) rfl ?_)
  (refine nx (a_bslice (gN rfl) rfl rfl rfl rfl rfl rfl rfl rfl rfl rfl rfl rfl rfl) rfl ?_)
  (refine nx (a_appM 300022 (gN rfl) rfl rfl rfl rfl rfl rfl rfl rfl rfl rfl rfl rfl rfl (by first | rfl | omega | (simp only [List.length_set, List.length_map, List.length_append, List.length_cons, List.length_nil] <;> omega) | (simp <;> omega)) (by first | assumption | exact sZ rfl | exact Tm.size_all _ | exact Bd.size_all _ | exact ints_size _ | exact bys_size _ | exact Lt.size_all _) (by first | omega | (simp only [List.length_map, List.length_append, List.length_cons, List.length_nil] <;> omega) | (simp <;> omega))) (by kernel_rfl) ?_)
  (refine nx (aNc (gN rfl) rfl rfl rfl rfl rfl) rfl ?_)
  (refine nx (aF (gN rfl) rfl rfl rfl rfl rfl rfl rfl rfl rfl) rfl ?_)
  (refine nx (a_store_fld (gN rfl) rfl rfl rfl rfl rfl rfl rfl rfl rfl rfl rfl rfl) rfl ?_)
  refine ⟨by kernel_rfl, ?_⟩
  show AWp _ _ _ _ _ _ _
  obtain ⟨c1, hc1⟩ : ∃ c1 : Cl, c1 = ⟨c.ns ++ [⟨t, 0, c.ns.length, 0⟩], c.vr, c.ps⟩ := ⟨_, rfl⟩
  have hn1 : c1.ns = c.ns ++ [⟨t, 0, c.ns.length, 0⟩] := by rw [hc1]
  have hl1 : c1.ns.length = c.ns.length + 1 := by rw [hn1, List.length_append]; rfl
  refine AWp.wk ((wk_sub (s' := [(0, AV.bp 350001 0 []), (3, .bp 3 0 []), (100003, .bx t.cw), (5, .val (.i (c.ns.length : Int))), (450001, .obj), (35500100, .sl 300022 0 c1.ns.length 5), (35500101, .mref 300003), (35500102, .sl 300002 0 c1.ps.length 2), (300022, .mrow 194 5 (c1.ns.map Nd.cv)), (300003, .mp (c1.vr.map vrv)), (300002, .mrow 207 2 (c1.ps.map psv))]) ⟨rfl, rfl, rfl, rfl, rfl, ?_, rfl, ?_, ?_, ?_, ?_, trivial⟩).trans (wk_ren 300022 300001 rfl rfl (by kernel_rfl) (by kernel_rfl))) ?_
  · rw [hl1, ← hlm]; rfl
  · rw [hc1]; rfl
  · rw [hn1, List.map_append]; rfl
  · rw [hc1]; rfl
  · rw [hc1]; rfl
  refine aS (aS (aR ?_))
  (refine nx (aL (gN rfl) rfl rfl rfl rfl rfl rfl rfl rfl rfl rfl rfl rfl) rfl ?_)
  (refine nx (a_call (gN rfl) rfl rfl rfl rfl rfl (uIsVar_abs w t)) rfl ?_)
  (refine nx (a_not (gN rfl) rfl rfl rfl rfl rfl) rfl ?_)
  show AWp _ _ _ _ _ _ _
  by_cases hf : t.f < 0
  case neg =>
    have hg : decide (t.f < 0) = false := by simpa using hf
    have hadd : addC c t = c1 := by unfold addC addU addV; rw [if_neg hf, if_neg hf, hc1]
    rw [hg, hadd]
    refine aC rfl (fun hc => ?_) (fun hc => by cases hc)
    refine aS (aR ?_)
    (refine nx (aM (gN rfl) rfl rfl rfl rfl rfl) rfl ?_)
    (refine nx (aA (gN rfl) rfl rfl rfl rfl rfl) rfl ?_)
    show AWp _ _ _ _ _ _ _
    exact aT ⟨.inr rfl, _, Wk.refl _, rfl, rfl, rfl, rfl, rfl, rfl, rfl, rfl, trivial⟩
  have hg : decide (t.f < 0) = true := by simpa using hf
  rw [hg]
  refine aC rfl (fun hc => by cases hc) (fun hc => aK ?_)
  show AWp _ _ _ _ _ _ _
  refine aS (aS (aD (by kernel_rfl) (by kernel_rfl) ?_))
  (refine nx (aM (gN rfl) rfl rfl rfl rfl rfl) rfl ?_)
  (refine nx (aNc (gN rfl) rfl rfl rfl rfl rfl) rfl ?_)
  (refine nx (aF (gN rfl) rfl rfl rfl rfl rfl rfl rfl rfl rfl) rfl ?_)
  (refine nx (aLf (gN rfl) rfl rfl rfl rfl rfl rfl rfl rfl rfl rfl rfl rfl rfl) rfl ?_)
  (refine nx (aL (gN rfl) rfl rfl rfl rfl rfl rfl rfl rfl rfl rfl rfl rfl) rfl ?_)
  (refine nx (a_call (gN rfl) rfl rfl rfl rfl rfl (uNumber_abs w t htr.1.1 hf)) rfl ?_)
  (refine nx (a_lookupI (gN rfl) rfl rfl rfl rfl rfl rfl rfl rfl rfl rfl rfl (vr_keys _)) rfl ?_)
  (refine nx (aM (gN rfl) rfl rfl rfl rfl rfl) rfl ?_)
  (refine nx (aX (gN rfl) rfl rfl rfl rfl rfl rfl) rfl ?_)
  (refine nx (aX (gN rfl) rfl rfl rfl rfl rfl rfl) rfl ?_)
  (refine nx (aA (gN rfl) rfl rfl rfl rfl rfl) rfl ?_)
  (refine nx (aA (gN rfl) rfl rfl rfl rfl rfl) rfl ?_)
  refine ⟨by kernel_rfl, ?_⟩
  show AWp _ _ _ _ _ _ _
  rw [vr_look]
  have hvr : c1.vr = c.vr := by rw [hc1]
  rw [hvr]
  refine aS (aR ?_)
  (refine nx (aM (gN rfl) rfl rfl rfl rfl rfl) rfl ?_)
  show AWp _ _ _ _ _ _ _
  have hx : c1.ns[c.ns.length]? = some ⟨t, 0, c.ns.length, 0⟩ := by rw [hn1]; exact snoc_at _ _
  have hx' := Nd.map_at hx
  have hlm1 : (c1.ns.map Nd.cv).length = c1.ns.length := List.length_map ..
  cases hlk : lookV c.vr (-1 - t.f) with
  | some m =>
    have hadd : addC c t = ⟨setUp c1.ns c.ns.length m, c.vr, c1.ps⟩ := by
      unfold addC addU addV
      rw [if_pos hf, if_pos hf, hlk]
      have : setUp c1.ns c.ns.length m = c.ns ++ [⟨t, 0, m, 0⟩] := by
        unfold setUp
        rw [getD_at hx, hn1, List.set_append_right _ _ (Nat.le_refl _)]
        simp
      rw [this, hc1]
      rfl
    have hm1 : (setUp c1.ns c.ns.length m).map Nd.cv = (c1.ns.map Nd.cv).set c.ns.length (Nd.cw ⟨t, 0, m, 0⟩) := map_setUp hx
    refine aC rfl (fun hc => ?_) (fun hc => by cases hc)
    refine aR ?_
    (refine nx (aM (gN rfl) rfl rfl rfl rfl rfl) rfl ?_)
    (refine nx (aNc (gN rfl) rfl rfl rfl rfl rfl) rfl ?_)
    (refine nx (aF (gN rfl) rfl rfl rfl rfl rfl rfl rfl rfl rfl) rfl ?_)
    (refine nx (aLf (gN rfl) rfl rfl rfl rfl rfl rfl rfl rfl rfl rfl rfl rfl rfl) rfl ?_)
    (refine nx (aM (gN rfl) rfl rfl rfl rfl rfl) rfl ?_)
    (refine nx (aM (gN rfl) rfl rfl rfl rfl rfl) rfl ?_)
    (refine nx (aIm (k := c.ns.length) (gN rfl) rfl rfl rfl rfl rfl rfl rfl rfl rfl (by first | rfl | omega | (simp only [List.length_set, List.length_map, List.length_append, List.length_cons, List.length_nil] <;> omega) | (simp <;> omega))) rfl ?_)
    (refine nx (a_fieldM (gN rfl) rfl rfl rfl rfl rfl rfl rfl rfl rfl) rfl ?_)
    (refine nx (a_storeM (gN rfl) rfl rfl rfl rfl rfl rfl (hx') rfl rfl (by first | rfl | omega | (simp only [List.length_set, List.length_map, List.length_append, List.length_cons, List.length_nil] <;> omega) | (simp <;> omega)) rfl) rfl ?_)
    show AWp _ _ _ _ _ _ _
    rw [hadd]
    refine AWp.wk (wk_sub (s' := (5, AV.val (.i (c.ns.length : Int))) :: cstM ⟨setUp c1.ns c.ns.length m, c.vr, c1.ps⟩) ⟨rfl, rfl, ?_, rfl, rfl, ?_, rfl, rfl, trivial⟩) ?_
    · show _ = some (AV.sl 300001 0 (setUp c1.ns c.ns.length m).length 5); rw [setUpLen]; rfl
    · show _ = some (AV.mrow 194 5 ((setUp c1.ns c.ns.length m).map Nd.cv)); rw [hm1]; rfl
    refine aS (aR ?_)
    (refine nx (aM (gN rfl) rfl rfl rfl rfl rfl) rfl ?_)
    (refine nx (aA (gN rfl) rfl rfl rfl rfl rfl) rfl ?_)
    show AWp _ _ _ _ _ _ _
    exact aT ⟨.inr rfl, _, Wk.refl _, rfl, rfl, rfl, rfl, rfl, rfl, rfl, rfl, trivial⟩
  | none =>
    have hadd : addC c t = ⟨c1.ns, c.vr ++ [(-1 - t.f, c.ns.length)], c1.ps⟩ := by
      unfold addC addU addV
      rw [if_pos hf, if_pos hf, hlk, hc1]
      rfl
    have hput := vr_put (n := c.ns.length) hlk
    refine aC rfl (fun hc => by cases hc) (fun hc => ?_)
    refine aD (by kernel_rfl) (by kernel_rfl) ?_
    (refine nx (aM (gN rfl) rfl rfl rfl rfl rfl) rfl ?_)
    (refine nx (aNc (gN rfl) rfl rfl rfl rfl rfl) rfl ?_)
    (refine nx (aF (gN rfl) rfl rfl rfl rfl rfl rfl rfl rfl rfl) rfl ?_)
    (refine nx (aLf (gN rfl) rfl rfl rfl rfl rfl rfl rfl rfl rfl rfl rfl rfl rfl) rfl ?_)
    (refine nx (aL (gN rfl) rfl rfl rfl rfl rfl rfl rfl rfl rfl rfl rfl rfl) rfl ?_)
    (refine nx (a_call (gN rfl) rfl rfl rfl rfl rfl (uNumber_abs w t htr.1.1 hf)) rfl ?_)
    (refine nx (aM (gN rfl) rfl rfl rfl rfl rfl) rfl ?_)
    (refine nx (a_mapup (gN rfl) rfl rfl rfl rfl rfl rfl rfl rfl (vr_keys _)) rfl ?_)
    refine ⟨by kernel_rfl, ?_⟩
    show AWp _ _ _ _ _ _ _
    rw [hadd]
    refine AWp.wk (wk_sub (s' := (5, AV.val (.i (c.ns.length : Int))) :: cstM ⟨c1.ns, c.vr ++ [(-1 - t.f, c.ns.length)], c1.ps⟩) ⟨rfl, rfl, rfl, rfl, rfl, rfl, ?_, rfl, trivial⟩) ?_
    · show _ = some (AV.mp ((c.vr ++ [(-1 - t.f, c.ns.length)]).map vrv))
      rw [← hput]; rfl
    refine aS (aR ?_)
    (refine nx (aM (gN rfl) rfl rfl rfl rfl rfl) rfl ?_)
    (refine nx (aA (gN rfl) rfl rfl rfl rfl rfl) rfl ?_)
    show AWp _ _ _ _ _ _ _
    exact aT ⟨.inr rfl, _, Wk.refl _, rfl, rfl, rfl, rfl, rfl, rfl, rfl, rfl, trivial⟩

def trmOk (ns : List Nd) : Prop := ∀ x ∈ ns, x.t.rng ∧ x.t.ok
theorem trmOk.add {c : Cl} (h : trmOk c.ns) {t : Tm} (h1 : t.rng) (h2 : t.ok) : trmOk (addC c t).ns := fun x hx => by
  rcases List.mem_append.1 hx with hx | hx
  · exact h x hx
  · rw [List.mem_singleton] at hx; rw [hx]; exact ⟨h1, h2⟩
theorem trmOk.all {l : List Tm} (hl : ∀ t ∈ l, t.rng ∧ t.ok) : ∀ {c : Cl}, trmOk c.ns → trmOk (addAll c l).ns := by
  induction l with
  | nil => exact fun h => h
  | cons t l ih =>
    intro c h
    exact ih (fun s hs => hl s (List.mem_cons_of_mem _ hs)) (h.add (hl t (by simp)).1 (hl t (by simp)).2)
theorem addAll_take {c : Cl} {l : List Tm} {k : Nat} {t : Tm} (h : l[k]? = some t) : addAll c (l.take (k + 1)) = addC (addAll c (l.take k)) t := by
  unfold addAll
  rw [List.take_add_one, h, List.foldl_append]
  rfl
theorem addAll_pre (l : List Tm) : ∀ c : Cl, ∃ N, (addAll c l).ns = c.ns ++ N ∧ N.length = l.length := by
  induction l with
  | nil => exact fun c => ⟨[], by simp [addAll], rfl⟩
  | cons t l ih =>
    intro c
    obtain ⟨N, h, h2⟩ := ih (addC c t)
    exact ⟨⟨t, 0, addU c t, 0⟩ :: N, by
      show (addAll (addC c t) l).ns = _
      rw [h]
      show (c.ns ++ [⟨t, 0, addU c t, 0⟩]) ++ N = _
      simp, by simp [h2]⟩
theorem addAll_lenU (c : Cl) (l : List Tm) : (addAll c l).ns.length = c.ns.length + l.length := by
  obtain ⟨N, h, h2⟩ := addAll_pre l c
  rw [h, List.length_append, h2]
-- 
set_option maxHeartbeats 4000000 in
theorem uParts_abs (c : Cl) (n : Nat) (hn : n < c.ns.length) (hT : trmOk c.ns) (hl : (pC c n).1.ns.length ≤ 1000000) (hfi : (nT c.ns n).l.length ≠ 0 → nK c.ns n ≤ 1000000) : AFunO Tryz.prog 155 (cstM c) [.bp 350001 0 [], .val (.i (n : Int))] (.tup [.i ((pC c n).2.1 : Int), .i ((pC c n).2.2 : Int)]) (cstM (pC c n).1) := by
  obtain ⟨x, hx⟩ := nd_at hn
  have hx' := Nd.map_at hx
  have hlm : (c.ns.map Nd.cv).length = c.ns.length := List.length_map ..
  obtain ⟨htr, hto⟩ := hT x (List.mem_of_getElem? hx)
  have htr' := (Tm.rng_iff _).1 htr
  have hto' := (Tm.ok_iff _).1 hto
  have hnT : nT c.ns n = x.t := by unfold nT; rw [getD_at hx]
  have hnK : nK c.ns n = x.fi := by unfold nK; rw [getD_at hx]
  have hsz := Tm.size_all x.t.l
  unfold pC at hl ⊢
  rw [hnT, hnK] at hl ⊢
  rw [hnK, hnT] at hfi
  refine afunO_of Tryz.func155 Tryz.ntmps155 rfl rfl rfl rfl rfl rfl ?_
  intro w U hU
  refine aS (aR ?_)
  (refine nx (aA (gN rfl) rfl rfl rfl rfl rfl) rfl ?_)
  (refine nx (aA (gN rfl) rfl rfl rfl rfl rfl) rfl ?_)
  show AWp _ _ _ _ _ _ _
  refine aS (aR ?_)
  (refine nx (aM (gN rfl) rfl rfl rfl rfl rfl) rfl ?_)
  (refine nx (aNc (gN rfl) rfl rfl rfl rfl rfl) rfl ?_)
  (refine nx (aF (gN rfl) rfl rfl rfl rfl rfl rfl rfl rfl rfl) rfl ?_)
  (refine nx (aLf (gN rfl) rfl rfl rfl rfl rfl rfl rfl rfl rfl rfl rfl rfl rfl) rfl ?_)
  (refine nx (aM (gN rfl) rfl rfl rfl rfl rfl) rfl ?_)
  (refine nx (aIm (k := n) (gN rfl) rfl rfl rfl rfl rfl rfl rfl rfl rfl (by first | rfl | omega | (simp only [List.length_set, List.length_map, List.length_append, List.length_cons, List.length_nil] <;> omega) | (simp <;> omega))) rfl ?_)
  (refine nx (a_fieldM (gN rfl) rfl rfl rfl rfl rfl rfl rfl rfl rfl) rfl ?_)
  (refine nx (a_loadM (gN rfl) rfl rfl rfl rfl rfl rfl rfl rfl (hx') rfl (by first | rfl | omega | (simp only [List.length_set, List.length_map, List.length_append, List.length_cons, List.length_nil] <;> omega) | (simp <;> omega)) rfl rfl) rfl ?_)
  (refine nx (a_alloc (gN rfl) rfl rfl rfl rfl rfl rfl rfl rfl rfl rfl) (by kernel_rfl) ?_)
  (refine nx (aSt (gN rfl) rfl rfl rfl rfl rfl rfl rfl rfl rfl rfl) rfl ?_)
  show AWp _ _ _ _ _ _ _
  refine AWp.wk (wk_sub (s' := (0, AV.bp 350001 0 []) :: (1, .val (.i (n : Int))) :: (6, .bp 6 0 []) :: (100006, .bx x.t.cw) :: cstM c) ⟨rfl, rfl, rfl, rfl, rfl, rfl, rfl, rfl, rfl, rfl, rfl, trivial⟩) ?_
  have hiv := uIsVar_abs w x.t
  by_cases hf : x.t.f < 0
  case pos =>
    rw [show decide (x.t.f < 0) = true by simpa using hf] at hiv
    rw [if_pos (.inl hf)]
    refine aS (aS (aR ?_))
    (refine nx (aL (gN rfl) rfl rfl rfl rfl rfl rfl rfl rfl rfl rfl rfl rfl) rfl ?_)
    (refine nx (a_call (gN rfl) rfl rfl rfl rfl rfl (hiv)) rfl ?_)
    (refine nx (aM (gN rfl) rfl rfl rfl rfl rfl) rfl ?_)
    (refine ⟨_, _, _, a_off (go_off rfl rfl rfl rfl (by first | rfl | assumption | (simp; done) | (simp [*]; done))) rfl rfl rfl, rfl, ?_⟩)
    (refine ⟨_, _, _, a_off (go_off rfl rfl rfl rfl (by first | rfl | assumption | (simp; done) | (simp [*]; done))) rfl rfl rfl, rfl, ?_⟩)
    (refine ⟨_, _, _, a_off (go_off rfl rfl rfl rfl (by first | rfl | assumption | (simp; done) | (simp [*]; done))) rfl rfl rfl, rfl, ?_⟩)
    (refine ⟨_, _, _, a_off (go_off rfl rfl rfl rfl (by first | rfl | assumption | (simp; done) | (simp [*]; done))) rfl rfl rfl, rfl, ?_⟩)
    (refine ⟨_, _, _, aPt (gN rfl) rfl rfl rfl rfl rfl ?hb rfl, rfl, ?_⟩; case hb => (first | rfl | assumption | (simp; done)))
    show AWp _ _ _ _ _ _ _
    refine aC rfl (fun hc => ?_) (fun hc => by cases hc)
    refine aS (aR ?_)
    (refine nx (aA (gN rfl) rfl rfl rfl rfl rfl) rfl ?_)
    (refine nx (aA (gN rfl) rfl rfl rfl rfl rfl) rfl ?_)
    show AWp _ _ _ _ _ _ _
    exact aT ⟨.inr rfl, _, Wk.refl _, rfl, rfl, rfl, rfl, rfl, rfl, rfl, rfl, trivial⟩
  rw [show decide (x.t.f < 0) = false by simpa using hf] at hiv
  by_cases h0 : x.t.l.length = 0
  case pos =>
    have g0 : decide (((x.t.l.map Tm.cv).length : Int) = 0) = true := by rw [List.length_map]; simpa using h0
    rw [if_pos (.inr h0)]
    refine aS (aS (aR ?_))
    (refine nx (aL (gN rfl) rfl rfl rfl rfl rfl rfl rfl rfl rfl rfl rfl rfl) rfl ?_)
    (refine nx (a_call (gN rfl) rfl rfl rfl rfl rfl (hiv)) rfl ?_)
    (refine nx (aM (gN rfl) rfl rfl rfl rfl rfl) rfl ?_)
    (refine nx (aF (gd_on rfl rfl rfl rfl (by first | rfl | assumption | (simp; done))) rfl rfl rfl rfl rfl rfl rfl rfl rfl) rfl ?_)
    (refine nx (aLb (gd_on rfl rfl rfl rfl (by first | rfl | assumption | (simp; done))) rfl rfl rfl rfl rfl rfl rfl rfl rfl rfl rfl rfl) rfl ?_)
    (refine nx (a_len (gd_on rfl rfl rfl rfl (by first | rfl | assumption | (simp; done))) rfl rfl rfl rfl rfl rfl rfl) rfl ?_)
    (refine nx (a_eql (gd_on rfl rfl rfl rfl (by first | rfl | assumption | (simp; done))) rfl rfl rfl rfl rfl rfl) rfl ?_)
    (refine ⟨_, _, _, aPf (gN rfl) rfl rfl rfl rfl rfl ?hb rfl, rfl, ?_⟩; case hb => (first | rfl | assumption | (simp; done)))
    show AWp _ _ _ _ _ _ _
    refine aC rfl (fun hc => ?_) (fun hc => by rw [g0] at hc; cases hc)
    refine aS (aR ?_)
    (refine nx (aA (gN rfl) rfl rfl rfl rfl rfl) rfl ?_)
    (refine nx (aA (gN rfl) rfl rfl rfl rfl rfl) rfl ?_)
    show AWp _ _ _ _ _ _ _
    exact aT ⟨.inr rfl, _, Wk.refl _, rfl, rfl, rfl, rfl, rfl, rfl, rfl, rfl, trivial⟩
  have g0 : decide (((x.t.l.map Tm.cv).length : Int) = 0) = false := by rw [List.length_map]; simpa using h0
  have hno : ¬ (x.t.f < 0 ∨ x.t.l.length = 0) := by omega
  rw [if_neg hno] at hl ⊢
  refine aS (aS (aR ?_))
  (refine nx (aL (gN rfl) rfl rfl rfl rfl rfl rfl rfl rfl rfl rfl rfl rfl) rfl ?_)
  (refine nx (a_call (gN rfl) rfl rfl rfl rfl rfl (hiv)) rfl ?_)
  (refine nx (aM (gN rfl) rfl rfl rfl rfl rfl) rfl ?_)
  (refine nx (aF (gd_on rfl rfl rfl rfl (by first | rfl | assumption | (simp; done))) rfl rfl rfl rfl rfl rfl rfl rfl rfl) rfl ?_)
  (refine nx (aLb (gd_on rfl rfl rfl rfl (by first | rfl | assumption | (simp; done))) rfl rfl rfl rfl rfl rfl rfl rfl rfl rfl rfl rfl) rfl ?_)
  (refine nx (a_len (gd_on rfl rfl rfl rfl (by first | rfl | assumption | (simp; done))) rfl rfl rfl rfl rfl rfl rfl) rfl ?_)
  (refine nx (a_eql (gd_on rfl rfl rfl rfl (by first | rfl | assumption | (simp; done))) rfl rfl rfl rfl rfl rfl) rfl ?_)
  (refine ⟨_, _, _, aPf (gN rfl) rfl rfl rfl rfl rfl ?hb rfl, rfl, ?_⟩; case hb => (first | rfl | assumption | (simp; done)))
  show AWp _ _ _ _ _ _ _
  refine aC rfl (fun hc => by rw [g0] at hc; cases hc) (fun hc => aK ?_)
  show AWp _ _ _ _ _ _ _
  refine AWp.wk (wk_sub (s' := (0, AV.bp 350001 0 []) :: (1, .val (.i (n : Int))) :: (6, .bp 6 0 []) :: (100006, .bx x.t.cw) :: cstM c) ⟨rfl, rfl, rfl, rfl, rfl, rfl, rfl, rfl, rfl, rfl, rfl, trivial⟩) ?_
  by_cases hk0 : x.fi = 0
  case neg =>
    have hfi := hfi h0
    rw [if_neg hk0]
    refine aS (aS (aR ?_))
    (refine nx (aM (gN rfl) rfl rfl rfl rfl rfl) rfl ?_)
    (refine nx (aNc (gN rfl) rfl rfl rfl rfl rfl) rfl ?_)
    (refine nx (aF (gN rfl) rfl rfl rfl rfl rfl rfl rfl rfl rfl) rfl ?_)
    (refine nx (aLf (gN rfl) rfl rfl rfl rfl rfl rfl rfl rfl rfl rfl rfl rfl rfl) rfl ?_)
    (refine nx (aM (gN rfl) rfl rfl rfl rfl rfl) rfl ?_)
    (refine nx (aIm (k := n) (gN rfl) rfl rfl rfl rfl rfl rfl rfl rfl rfl (by first | rfl | omega | (simp only [List.length_set, List.length_map, List.length_append, List.length_cons, List.length_nil] <;> omega) | (simp <;> omega))) rfl ?_)
    (refine nx (a_fieldM (gN rfl) rfl rfl rfl rfl rfl rfl rfl rfl rfl) rfl ?_)
    (refine nx (a_loadM (gN rfl) rfl rfl rfl rfl rfl rfl rfl rfl (hx') rfl (by first | rfl | omega | (simp only [List.length_set, List.length_map, List.length_append, List.length_cons, List.length_nil] <;> omega) | (simp <;> omega)) rfl rfl) rfl ?_)
    (refine nx (a_eql (gN rfl) rfl rfl rfl rfl rfl rfl) rfl ?_)
    show AWp _ _ _ _ _ _ _
    refine aC rfl (fun hc => ?_) (fun hc => aK ?_)
    · have : (x.fi : Int) = 0 := by simpa using hc
      omega
    show AWp _ _ _ _ _ _ _
    refine aS (aR ?_)
    (refine nx (aM (gN rfl) rfl rfl rfl rfl rfl) rfl ?_)
    (refine nx (aNc (gN rfl) rfl rfl rfl rfl rfl) rfl ?_)
    (refine nx (aF (gN rfl) rfl rfl rfl rfl rfl rfl rfl rfl rfl) rfl ?_)
    (refine nx (aLf (gN rfl) rfl rfl rfl rfl rfl rfl rfl rfl rfl rfl rfl rfl rfl) rfl ?_)
    (refine nx (aM (gN rfl) rfl rfl rfl rfl rfl) rfl ?_)
    (refine nx (aIm (k := n) (gN rfl) rfl rfl rfl rfl rfl rfl rfl rfl rfl (by first | rfl | omega | (simp only [List.length_set, List.length_map, List.length_append, List.length_cons, List.length_nil] <;> omega) | (simp <;> omega))) rfl ?_)
    (refine nx (a_fieldM (gN rfl) rfl rfl rfl rfl rfl rfl rfl rfl rfl) rfl ?_)
    (refine nx (a_loadM (gN rfl) rfl rfl rfl rfl rfl rfl rfl rfl (hx') rfl (by first | rfl | omega | (simp only [List.length_set, List.length_map, List.length_append, List.length_cons, List.length_nil] <;> omega) | (simp <;> omega)) rfl rfl) rfl ?_)
    (refine nx (aA (gN rfl) rfl rfl rfl rfl rfl) rfl ?_)
    show AWp _ _ _ _ _ _ _
    refine aS (aD (by kernel_rfl) (by kernel_rfl) ?_)
    (refine nx (aM (gN rfl) rfl rfl rfl rfl rfl) rfl ?_)
    (refine nx (aM (gN rfl) rfl rfl rfl rfl rfl) rfl ?_)
    (refine nx (aF (gN rfl) rfl rfl rfl rfl rfl rfl rfl rfl rfl) rfl ?_)
    (refine nx (aLb (gN rfl) rfl rfl rfl rfl rfl rfl rfl rfl rfl rfl rfl rfl) rfl ?_)
    (refine nx (a_len (gN rfl) rfl rfl rfl rfl rfl rfl rfl) rfl ?_)
    (refine nx (a_add (gN rfl) rfl rfl rfl rfl rfl rfl (by first | omega | (simp only [List.length_map, List.length_append, List.length_cons, List.length_nil] <;> omega) | (simp <;> omega))) rfl ?_)
    (refine nx (aA (gN rfl) rfl rfl rfl rfl rfl) rfl ?_)
    (refine nx (aA (gN rfl) rfl rfl rfl rfl rfl) rfl ?_)
    refine ⟨by kernel_rfl, ?_⟩
    show AWp _ _ _ _ _ _ _
    refine aT ⟨.inr rfl, _, Wk.refl _, ?_, rfl, rfl, rfl, rfl, rfl, rfl, rfl, trivial⟩
    show some (AV.tup [.i (x.fi : Int), .i ((x.fi : Int) + ((x.t.l.map Tm.cv).length : Nat))]) = some (AV.tup [.i (x.fi : Int), .i ((x.fi + x.t.l.length : Nat) : Int)])
    rw [List.length_map]
    congr 5
  rw [if_pos hk0] at hl ⊢
  obtain ⟨c1, hc1⟩ : ∃ c1, c1 = c.setFi n c.ns.length := ⟨_, rfl⟩
  rw [← hc1] at hl ⊢
  have hn1 : c1.ns = setFi c.ns n c.ns.length := by rw [hc1]; rfl
  have hm1 : c1.ns.map Nd.cv = (c.ns.map Nd.cv).set n (Nd.cw { x with fi := c.ns.length }) := by rw [hn1]; exact map_setFi hx
  have hl1 : c1.ns.length = c.ns.length := by rw [hn1]; unfold setFi; simp
  have hx1 : c1.ns[n]? = some { x with fi := c.ns.length } := by
    rw [hn1]; unfold setFi
    rw [List.getElem?_set_self hn, getD_at hx]
  rw [addAll_lenU, hl1] at hl
  refine aS (aS (aR ?_))
  (refine nx (aM (gN rfl) rfl rfl rfl rfl rfl) rfl ?_)
  (refine nx (aNc (gN rfl) rfl rfl rfl rfl rfl) rfl ?_)
  (refine nx (aF (gN rfl) rfl rfl rfl rfl rfl rfl rfl rfl rfl) rfl ?_)
  (refine nx (aLf (gN rfl) rfl rfl rfl rfl rfl rfl rfl rfl rfl rfl rfl rfl rfl) rfl ?_)
  (refine nx (aM (gN rfl) rfl rfl rfl rfl rfl) rfl ?_)
  (refine nx (aIm (k := n) (gN rfl) rfl rfl rfl rfl rfl rfl rfl rfl rfl (by first | rfl | omega | (simp only [List.length_set, List.length_map, List.length_append, List.length_cons, List.length_nil] <;> omega) | (simp <;> omega))) rfl ?_)
  (refine nx (a_fieldM (gN rfl) rfl rfl rfl rfl rfl rfl rfl rfl rfl) rfl ?_)
  (refine nx (a_loadM (gN rfl) rfl rfl rfl rfl rfl rfl rfl rfl (hx') rfl (by first | rfl | omega | (simp only [List.length_set, List.length_map, List.length_append, List.length_cons, List.length_nil] <;> omega) | (simp <;> omega)) rfl rfl) rfl ?_)
  (refine nx (a_eql (gN rfl) rfl rfl rfl rfl rfl rfl) rfl ?_)
  show AWp _ _ _ _ _ _ _
  refine aC rfl (fun hc => ?_) (fun hc => ?_)
  case refine_2 =>
    have : ¬ (x.fi : Int) = 0 := by simpa using hc
    omega
  refine aS (aD (by kernel_rfl) (by kernel_rfl) ?_)
  (refine nx (aM (gN rfl) rfl rfl rfl rfl rfl) rfl ?_)
  (refine nx (aNc (gN rfl) rfl rfl rfl rfl rfl) rfl ?_)
  (refine nx (aF (gN rfl) rfl rfl rfl rfl rfl rfl rfl rfl rfl) rfl ?_)
  (refine nx (aLf (gN rfl) rfl rfl rfl rfl rfl rfl rfl rfl rfl rfl rfl rfl rfl) rfl ?_)
  (refine nx (aM (gN rfl) rfl rfl rfl rfl rfl) rfl ?_)
  (refine nx (aM (gN rfl) rfl rfl rfl rfl rfl) rfl ?_)
  (refine nx (aNc (gN rfl) rfl rfl rfl rfl rfl) rfl ?_)
  (refine nx (aF (gN rfl) rfl rfl rfl rfl rfl rfl rfl rfl rfl) rfl ?_)
  (refine nx (aLf (gN rfl) rfl rfl rfl rfl rfl rfl rfl rfl rfl rfl rfl rfl rfl) rfl ?_)
  (refine nx (a_lenM (gN rfl) rfl rfl rfl rfl rfl rfl rfl) rfl ?_)
  (refine nx (aIm (k := n) (gN rfl) rfl rfl rfl rfl rfl rfl rfl rfl rfl (by first | rfl | omega | (simp only [List.length_set, List.length_map, List.length_append, List.length_cons, List.length_nil] <;> omega) | (simp <;> omega))) rfl ?_)
  (refine nx (a_fieldM (gN rfl) rfl rfl rfl rfl rfl rfl rfl rfl rfl) rfl ?_)
  (refine nx (a_storeM (gN rfl) rfl rfl rfl rfl rfl rfl (hx') rfl rfl (by first | rfl | omega | (simp only [List.length_set, List.length_map, List.length_append, List.length_cons, List.length_nil] <;> omega) | (simp <;> omega)) rfl) rfl ?_)
  refine ⟨by kernel_rfl, ?_⟩
  show AWp _ _ _ _ _ _ _
  refine AWp.wk (wk_sub (s' := (0, AV.bp 350001 0 []) :: (1, .val (.i (n : Int))) :: (6, .bp 6 0 []) :: (100006, .bx x.t.cw) :: cstM c1) ⟨rfl, rfl, rfl, rfl, rfl, ?_, ?_, ?_, ?_, ?_, ?_, trivial⟩) ?_
  · show _ = some (AV.sl 300001 0 c1.ns.length 5); rw [hl1]; rfl
  · rfl
  · rw [hc1]; rfl
  · show _ = some (AV.mrow 194 5 (c1.ns.map Nd.cv)); rw [hm1]; rfl
  · rw [hc1]; rfl
  · rw [hc1]; rfl
  refine aS (aR ?_)
  (refine nx (aF (gN rfl) rfl rfl rfl rfl rfl rfl rfl rfl rfl) rfl ?_)
  (refine nx (aLb (gN rfl) rfl rfl rfl rfl rfl rfl rfl rfl rfl rfl rfl rfl) rfl ?_)
  (refine nx (a_len (gN rfl) rfl rfl rfl rfl rfl rfl rfl) rfl ?_)
  (refine nx (aM (gN rfl) rfl rfl rfl rfl rfl) rfl ?_)
  show AWp _ _ _ _ _ _ _
  refine aB (awp_count x.t.l.length (fun k => (0, AV.bp 350001 0 []) :: (1, .val (.i (n : Int))) :: (6, .bp 6 0 []) :: (100006, .bx x.t.cw) :: (48, .val (.lst (x.t.l.map Tm.cv))) :: (49, .val (.i (x.t.l.map Tm.cv).length)) :: (50, .val (.i k)) :: cstM (addAll c1 (x.t.l.take k))) (wk_sub ⟨rfl, rfl, rfl, rfl, rfl, rfl, rfl, rfl, rfl, rfl, rfl, rfl, rfl, rfl, trivial⟩) ?_)
  intro k hk
  refine aS (aR ?_)
  (refine nx (a_lss (gN rfl) rfl rfl rfl rfl rfl rfl) rfl ?_)
  show AWp _ _ _ _ _ _ _
  refine aS (aC rfl (fun hlt => ?_) (fun hlt => ?_))
  · have hkl : k < x.t.l.length := by simpa using hlt
    obtain ⟨y, hy⟩ : ∃ y, x.t.l[k]? = some y := ⟨x.t.l[k], List.getElem?_eq_getElem hkl⟩
    have hy' := Tm.map_at hy
    have hym := List.mem_of_getElem? hy
    have hck : (addAll c1 (x.t.l.take k)).ns.length ≤ 1000000 := by rw [addAll_lenU, hl1, List.length_take]; omega
    obtain ⟨ck, hk2⟩ : ∃ ck, ck = addAll c1 (x.t.l.take k) := ⟨_, rfl⟩
    have hstep := addAll_take (c := c1) hy
    rw [← hk2] at hstep hck ⊢
    refine aK ?_
    show AWp _ _ _ _ _ _ _
    refine aS (aB (aS (aR ?_)))
    (refine nx (a_index (j := k) (gN rfl) rfl rfl rfl rfl rfl rfl rfl rfl rfl (hy') rfl (hsz)) rfl ?_)
    (refine nx (a_load_ad (gN rfl) rfl rfl rfl rfl rfl rfl rfl rfl rfl) rfl ?_)
    (refine nx (a_alloc (gN rfl) rfl rfl rfl rfl rfl rfl rfl rfl rfl rfl) (by kernel_rfl) ?_)
    (refine nx (aSt (gN rfl) rfl rfl rfl rfl rfl rfl rfl rfl rfl rfl) rfl ?_)
    show AWp _ _ _ _ _ _ _
    refine aR ?_
    (refine nx (aM (gN rfl) rfl rfl rfl rfl rfl) rfl ?_)
    (refine nx (aL (gN rfl) rfl rfl rfl rfl rfl rfl rfl rfl rfl rfl rfl rfl) rfl ?_)
    (refine nx (a_callO (gN rfl) rfl rfl rfl rfl rfl (uAdd_abs ck y (htr'.2 y hym) hck) (by repeat (first | exact trivial | refine ⟨rfl, ?_⟩)) (by first | rfl | kernel_rfl) (by first | rfl | kernel_rfl) (by first | rfl | kernel_rfl) (by first | rfl | kernel_rfl) (hnb_of (by first | rfl | kernel_rfl))) rfl ?_)
    show AWp _ _ _ _ _ _ _
    refine aR ?_
    (refine nx (a_add (gN rfl) rfl rfl rfl rfl rfl rfl (by first | omega | (simp only [List.length_map, List.length_append, List.length_cons, List.length_nil] <;> omega) | (simp <;> omega))) rfl ?_)
    (refine nx (aM (gN rfl) rfl rfl rfl rfl rfl) rfl ?_)
    refine ⟨hkl, ?_⟩
    show Wk _ _ _ _ (_ :: _ :: _ :: _ :: _ :: _ :: _ :: cstM (addAll c1 (x.t.l.take (k + 1))))
    rw [hstep]
    exact wk_sub ⟨rfl, rfl, rfl, rfl, rfl, rfl, rfl, rfl, rfl, rfl, rfl, rfl, rfl, rfl, trivial⟩
  · have hkl : k = x.t.l.length := by
      have : ¬ k < x.t.l.length := by simpa using hlt
      omega
    subst hkl
    rw [List.take_length]
    obtain ⟨N, hN, _⟩ := addAll_pre x.t.l c1
    have hx2 : (addAll c1 x.t.l).ns[n]? = some { x with fi := c.ns.length } := by
      rw [hN, List.getElem?_append_left (by rw [hl1]; exact hn)]; exact hx1
    have hx2' := Nd.map_at hx2
    obtain ⟨c2, hc2⟩ : ∃ c2, c2 = addAll c1 x.t.l := ⟨_, rfl⟩
    have hl2 : c2.ns.length = c.ns.length + x.t.l.length := by rw [hc2, addAll_lenU, hl1]
    have hlm2 : (c2.ns.map Nd.cv).length = c2.ns.length := List.length_map ..
    rw [← hc2] at hx2' ⊢
    refine aE ?_
    show AWp _ _ _ _ _ _ _
    refine AWp.wk (wk_sub (s' := (0, AV.bp 350001 0 []) :: (1, .val (.i (n : Int))) :: (6, .bp 6 0 []) :: (100006, .bx x.t.cw) :: cstM c2) ⟨rfl, rfl, rfl, rfl, rfl, rfl, rfl, rfl, rfl, rfl, rfl, trivial⟩) ?_
    refine aS (aR ?_)
    (refine nx (aM (gN rfl) rfl rfl rfl rfl rfl) rfl ?_)
    (refine nx (aNc (gN rfl) rfl rfl rfl rfl rfl) rfl ?_)
    (refine nx (aF (gN rfl) rfl rfl rfl rfl rfl rfl rfl rfl rfl) rfl ?_)
    (refine nx (aLf (gN rfl) rfl rfl rfl rfl rfl rfl rfl rfl rfl rfl rfl rfl rfl) rfl ?_)
    (refine nx (aM (gN rfl) rfl rfl rfl rfl rfl) rfl ?_)
    (refine nx (aIm (k := n) (gN rfl) rfl rfl rfl rfl rfl rfl rfl rfl rfl (by first | rfl | omega | (simp only [List.length_set, List.length_map, List.length_append, List.length_cons, List.length_nil] <;> omega) | (simp <;> omega))) rfl ?_)
    (refine nx (a_fieldM (gN rfl) rfl rfl rfl rfl rfl rfl rfl rfl rfl) rfl ?_)
    (refine nx (a_loadM (gN rfl) rfl rfl rfl rfl rfl rfl rfl rfl (hx2') rfl (by first | rfl | omega | (simp only [List.length_set, List.length_map, List.length_append, List.length_cons, List.length_nil] <;> omega) | (simp <;> omega)) rfl rfl) rfl ?_)
    (refine nx (aA (gN rfl) rfl rfl rfl rfl rfl) rfl ?_)
    show AWp _ _ _ _ _ _ _
    refine aS (aD (by kernel_rfl) (by kernel_rfl) ?_)
    (refine nx (aM (gN rfl) rfl rfl rfl rfl rfl) rfl ?_)
    (refine nx (aM (gN rfl) rfl rfl rfl rfl rfl) rfl ?_)
    (refine nx (aF (gN rfl) rfl rfl rfl rfl rfl rfl rfl rfl rfl) rfl ?_)
    (refine nx (aLb (gN rfl) rfl rfl rfl rfl rfl rfl rfl rfl rfl rfl rfl rfl) rfl ?_)
    (refine nx (a_len (gN rfl) rfl rfl rfl rfl rfl rfl rfl) rfl ?_)
    (refine nx (a_add (gN rfl) rfl rfl rfl rfl rfl rfl (by first | omega | (simp only [List.length_map, List.length_append, List.length_cons, List.length_nil] <;> omega) | (simp <;> omega))) rfl ?_)
    (refine nx (aA (gN rfl) rfl rfl rfl rfl rfl) rfl ?_)
    (refine nx (aA (gN rfl) rfl rfl rfl rfl rfl) rfl ?_)
    refine ⟨by kernel_rfl, ?_⟩
    show AWp _ _ _ _ _ _ _
    refine aT ⟨.inr rfl, _, Wk.refl _, ?_, rfl, rfl, rfl, rfl, rfl, rfl, rfl, trivial⟩
    show some (AV.tup [.i (c.ns.length : Int), .i ((c.ns.length : Int) + ((x.t.l.map Tm.cv).length : Nat))]) = some (AV.tup [.i (c.ns.length : Int), .i ((c.ns.length + x.t.l.length : Nat) : Int)])
    rw [List.length_map]
    congr 5
end Go.Proofs.YteegmcfobgpemaaGreat
namespace Go.Proofs.YteegmcfobgpemaaGreat
set_option linter.unusedVariables false
set_option linter.unusedSimpArgs false
def vrOk (l : List (Int × Nat)) : Prop := (l.map Prod.fst).Nodup ∧ ∀ p ∈ l, 0 ≤ p.1
theorem lookV_none {l : List (Int × Nat)} {v : Int} (h : lookV l v = none) : v ∉ l.map Prod.fst := by
  induction l with
  | nil => simp
  | cons p l ih =>
    rw [lookV] at h
    split at h
    · cases h
    · rename_i hne
      rw [List.map_cons, List.mem_cons]
      exact fun e => e.elim (fun e => hne e.symm) (ih h)
theorem lookV_iff {l : List (Int × Nat)} (hn : (l.map Prod.fst).Nodup) {v : Int} {m : Nat} : lookV l v = some m ↔ (v, m) ∈ l := by
  induction l with
  | nil => simp [lookV]
  | cons p l ih =>
    rw [List.map_cons] at hn
    obtain ⟨h1, h2⟩ := List.nodup_cons.1 hn
    rw [lookV, List.mem_cons]
    by_cases e : p.1 = v
    · rw [if_pos e]
      constructor
      · intro h; left; rw [← e, ← Option.some.inj h]
      · rintro (h | h)
        · rw [← h]
        · exact absurd (List.mem_map.2 ⟨(v, m), h, rfl⟩) (by rw [← e]; exact h1)
    · rw [if_neg e, ih h2]
      exact ⟨.inr, fun h => h.resolve_left fun h => e (by rw [← h])⟩
theorem lookV_perm {l l' : List (Int × Nat)} (hn : (l.map Prod.fst).Nodup) (hp : l'.Perm l) (v : Int) : lookV l' v = lookV l v := by
  have hn' : (l'.map Prod.fst).Nodup := (hp.map _).nodup_iff.2 hn
  cases h : lookV l v with
  | some m => rw [lookV_iff hn', hp.mem_iff]; exact (lookV_iff hn).1 h
  | none =>
    cases h' : lookV l' v with
    | none => rfl
    | some m =>
      have := (lookV_iff hn').1 h'
      rw [hp.mem_iff, ← lookV_iff hn, h] at this
      cases this
theorem findB_bind {l l' : List (Int × Nat)} (hn : (l.map Prod.fst).Nodup) (hp : l'.Perm l) (g : Nat → Tm) (v : Int) : findB (l'.map fun p => (⟨p.1, g p.2⟩ : Bd)) v = (lookV l v).map g := by
  rw [← lookV_perm hn hp v]
  clear hn hp
  induction l' with
  | nil => rfl
  | cons p l' ih =>
    rw [List.map_cons, findB, lookV]
    show (if p.1 = v then _ else _) = _
    split
    · rfl
    · exact ih
theorem vr_add (c : Cl) (t : Tm) (h : vrOk c.vr) : vrOk (addC c t).vr := by
  show vrOk (addV c t)
  unfold addV
  split
  · rename_i hf
    cases hl : lookV c.vr (-1 - t.f) with
    | some m => exact h
    | none =>
      refine ⟨?_, fun p hp => ?_⟩
      · rw [List.map_append, List.nodup_append]
        refine ⟨h.1, by simp, fun a ha b hb => ?_⟩
        rw [List.map_cons, List.map_nil, List.mem_singleton] at hb
        exact fun e => lookV_none hl (by rw [e, hb] at ha; exact ha)
      · rcases List.mem_append.1 hp with hp | hp
        · exact h.2 p hp
        · rw [List.mem_singleton] at hp; rw [hp]; show 0 ≤ -1 - t.f; omega
  · exact h
theorem vr_addAll (l : List Tm) : ∀ c : Cl, vrOk c.vr → vrOk (addAll c l).vr := by
  induction l with
  | nil => exact fun c h => h
  | cons t l ih => exact fun c h => ih _ (vr_add c t h)
theorem vr_parts (c : Cl) (n : Nat) (h : vrOk c.vr) : vrOk (pC c n).1.vr := by
  unfold pC
  split
  · exact h
  · split
    · exact vr_addAll _ _ h
    · exact h
theorem vr_joinTo (c : Cl) (a b : Nat) (h : vrOk c.vr) : vrOk (joinTo c a b).1.vr := by
  unfold joinTo
  split
  · exact h
  · split
    · exact h
    · exact vr_parts _ _ (vr_parts _ _ h)
theorem vr_join {k : Nat} {c : Cl} {x y : Nat} {q} (e : joinC k c x y = some q) (h : vrOk c.vr) : vrOk q.1.vr := by
  unfold joinC at e
  cases h1 : headC k c.ns x with
  | none => rw [h1] at e; cases e
  | some q1 =>
    rw [h1] at e
    simp only at e
    cases h2 : headC k q1.1 y with
    | none => rw [h2] at e; cases e
    | some q2 =>
      rw [h2] at e
      simp only at e
      split at e
      · cases e; exact h
      · split at e
        · cases e; exact vr_joinTo _ _ _ h
        · cases e; exact vr_joinTo _ _ _ h
theorem vr_run : ∀ (k : Nat) {c : Cl} {q}, runC k c = some q → vrOk c.vr → vrOk q.1.vr
  | 0, _, _, e, _ => by cases e
  | k + 1, c, q, e, h => by
    rw [runC] at e
    cases h1 : c.ps.getLast? with
    | none => rw [h1] at e; cases e; exact h
    | some p =>
      rw [h1] at e
      simp only at e
      cases h2 : joinC k ⟨c.ns, c.vr, c.ps.dropLast⟩ p.1 p.2 with
      | none => rw [h2] at e; cases e
      | some q1 =>
        rw [h2] at e
        simp only at e
        split at e
        · exact vr_run k e (vr_join h2 h)
        · cases e; exact vr_join h2 h
theorem vr_all : ∀ {k : Nat} {l : List (Tm × Tm)} {c : Cl} {q}, joinAllC k l c = some q → vrOk c.vr → vrOk q.1.vr
  | k, [], c, q, e, h => by cases e; exact h
  | k, p :: l, c, q, e, h => by
    rw [joinAllC] at e
    cases h2 : runC k (openC c p) with
    | none => rw [h2] at e; cases e
    | some q1 =>
      rw [h2] at e
      simp only at e
      have h3 : vrOk q1.1.vr := vr_run k h2 (vr_add _ _ (vr_add _ _ h))
      split at e
      · exact vr_all e h3
      · cases e; exact h3
theorem vr_count {k : Nat} : ∀ (j n : Nat) {c : Cl} {hs : List Nat} {q}, countC k j n c hs = some q → vrOk c.vr → vrOk q.1.vr
  | 0, _, _, _, _, e, _ => by cases e
  | j + 1, n, c, hs, q, e, h => by
    rw [countC] at e
    split at e
    · cases h1 : headC k c.ns n with
      | none => rw [h1] at e; cases e
      | some q1 =>
        rw [h1] at e
        simp only at e
        split at e
        · exact vr_count j _ e h
        · cases h2 : useC k (List.range' (pC ⟨q1.1, c.vr, c.ps⟩ n).2.1 ((pC ⟨q1.1, c.vr, c.ps⟩ n).2.2 - (pC ⟨q1.1, c.vr, c.ps⟩ n).2.1)) (pC ⟨q1.1, c.vr, c.ps⟩ n).1.ns with
          | none => rw [h2] at e; cases e
          | some ns =>
            rw [h2] at e
            simp only at e
            exact vr_count j _ e (vr_parts ⟨q1.1, c.vr, c.ps⟩ n h)
    · cases e; exact h
theorem vr_ord {k : Nat} : ∀ (j i : Nat) {c : Cl} {o : List Nat} {q}, ordC k j i c o = some q → vrOk c.vr → vrOk q.1.vr
  | 0, _, _, _, _, e, _ => by cases e
  | j + 1, i, c, o, q, e, h => by
    rw [ordC] at e
    split at e
    · cases e; exact h
    · rename_i g hg
      split at e
      · cases e
      · exact vr_ord j _ e (vr_parts c g h)
theorem lookV_mem {l : List (Int × Nat)} (hn : (l.map Prod.fst).Nodup) {p : Int × Nat} (hp : p ∈ l) : lookV l p.1 = some p.2 := by
  induction l with
  | nil => cases hp
  | cons a l ih =>
    rw [List.map_cons, List.nodup_cons] at hn
    rw [lookV]
    rcases List.mem_cons.1 hp with e | e
    · rw [← e, if_pos rfl]
    · rw [if_neg (fun e2 => hn.1 (by rw [e2]; exact List.mem_map_of_mem e)), ih hn.2 e]
def pw (ns : List Nd) : Nat := sumTo (gw ns 0) ns.length
theorem gw0 (ns : List Nd) (m : Nat) : gw ns 0 m = if nK ns m = 0 then (nT ns m).size else 1 := by
  unfold gw; rw [if_neg (Nat.not_lt_zero m)]
theorem len_pw (ns : List Nd) : ns.length ≤ pw ns := by
  have : ∀ N, N ≤ sumTo (gw ns 0) N := fun N => by
    induction N with
    | zero => exact Nat.le_refl _
    | succ N ih =>
      rw [sumTo]
      have : 1 ≤ gw ns 0 N := by
        rw [gw0]; split
        · exact Tm.size_pos _
        · exact Nat.le_refl _
      omega
  exact this _
theorem pw_same {ns ns' : List Nd} (hl : ns'.length = ns.length) (ht : ∀ m, nT ns' m = nT ns m) (hk : ∀ m, nK ns' m = nK ns m) : pw ns' = pw ns := gw_same hl ht hk
theorem tk_up {ns : List Nd} {n k : Nat} : (∀ m, nT (setUp ns n k) m = nT ns m) ∧ ∀ m, nK (setUp ns n k) m = nK ns m := by
  rcases Nat.lt_or_ge n ns.length with h | h
  · exact ⟨fun m => nT_setUp h, fun m => nK_setUp h⟩
  · have : setUp ns n k = ns := List.set_eq_of_length_le h
    rw [this]; exact ⟨fun _ => rfl, fun _ => rfl⟩
theorem tk_us {ns : List Nd} {n : Nat} {x : Int} : (∀ m, nT (setUs ns n x) m = nT ns m) ∧ ∀ m, nK (setUs ns n x) m = nK ns m := by
  rcases Nat.lt_or_ge n ns.length with h | h
  · exact ⟨fun m => nT_setUs h, fun m => nK_setUs h⟩
  · have : setUs ns n x = ns := List.set_eq_of_length_le h
    rw [this]; exact ⟨fun _ => rfl, fun _ => rfl⟩
theorem pw_up {ns : List Nd} {n k : Nat} : pw (setUp ns n k) = pw ns := pw_same setUp_len tk_up.1 tk_up.2
theorem pw_us {ns : List Nd} {n : Nat} {x : Int} : pw (setUs ns n x) = pw ns := pw_same setUs_len tk_us.1 tk_us.2
theorem pw_head : ∀ (k : Nat) {ns : List Nd} {n : Nat} {q}, headC k ns n = some q → pw q.1 = pw ns
  | 0, _, _, _, e => by cases e
  | k + 1, ns, n, q, e => by
    rw [headC] at e
    split at e
    · cases e; rfl
    · rw [pw_head k e, pw_up]
theorem pw_add (c : Cl) (t : Tm) : pw (addC c t).ns = pw c.ns + t.size := by
  unfold pw
  rw [addC_len, sumTo]
  have h1 : sumTo (gw (addC c t).ns 0) c.ns.length = sumTo (gw c.ns 0) c.ns.length := sumTo_congr fun m hm => by
    rw [gw0, gw0]
    unfold nK nT
    rw [addC_at c t hm]
  have h2 : gw (addC c t).ns 0 c.ns.length = t.size := by
    rw [gw0]
    unfold nK nT addC
    rw [getD_end]
    exact if_pos rfl
  rw [h1, h2]
theorem pw_addAll (l : List Tm) : ∀ c : Cl, pw (addAll c l).ns = pw c.ns + (l.map Tm.size).sum := by
  induction l with
  | nil => exact fun c => rfl
  | cons t l ih => intro c; rw [show addAll c (t :: l) = addAll (addC c t) l from rfl, ih, pw_add, List.map_cons, List.sum_cons]; omega
theorem pw_parts (c : Cl) (n : Nat) : pw (pC c n).1.ns = pw c.ns := by
  unfold pC
  split
  · rfl
  · rename_i hv
    split
    · rename_i hk
      have hn : n < c.ns.length := by
        rcases Nat.lt_or_ge n c.ns.length with h | h
        · exact h
        · exact absurd (.inr (by unfold nT; rw [getD_big h]; rfl)) hv
      rw [addAll_setFi _ c hn]
      obtain ⟨l, hl⟩ : ∃ l, l = (nT c.ns n).l := ⟨_, rfl⟩
      rw [← hl]
      have hlen := addAll_len l c
      have hn' : n < (addAll c l).ns.length := by omega
      have h1 := pw_addAll l c
      show pw (setFi (addAll c l).ns n c.ns.length) = _
      unfold pw at h1 ⊢
      rw [setFi_len]
      have h2 : sumTo (gw (setFi (addAll c l).ns n c.ns.length) 0) (addAll c l).ns.length = sumTo (upd (gw (addAll c l).ns 0) n 1) (addAll c l).ns.length := sumTo_congr fun m hm => by
        rw [gw0]
        by_cases e : m = n
        · subst e
          rw [upd_same, nK_setFi hn', upd_same, if_neg (by omega)]
        · rw [upd_ne e, gw0, nK_setFi hn', upd_ne e, nT_setFi hn']
      have h3 := sumTo_upd (f := gw (addAll c l).ns 0) (x := 1) hn'
      have h4 : gw (addAll c l).ns 0 n = (nT c.ns n).size := by
        rw [gw0, show nK (addAll c l).ns n = 0 by unfold nK at hk ⊢; rw [addAll_at l c hn]; exact hk, if_pos rfl]
        unfold nT
        rw [addAll_at l c hn]
      have h6 := Tm.size_sym (t := nT c.ns n) (fun e => hv (.inl e))
      rw [← hl] at h6
      rw [h2]
      omega
    · rfl
theorem pw_joinTo (c : Cl) (a b : Nat) : pw (joinTo c a b).1.ns = pw c.ns := by
  unfold joinTo
  split
  · exact pw_up
  · split
    · rfl
    · show pw (setUp _ _ _) = _
      rw [pw_up]
      show pw (pC (pC c a).1 b).1.ns = _
      rw [pw_parts, pw_parts]
theorem pw_join {k : Nat} {c : Cl} {x y : Nat} {q} (e : joinC k c x y = some q) : pw q.1.ns = pw c.ns := by
  unfold joinC at e
  cases h1 : headC k c.ns x with
  | none => rw [h1] at e; cases e
  | some q1 =>
    rw [h1] at e
    simp only at e
    cases h2 : headC k q1.1 y with
    | none => rw [h2] at e; cases e
    | some q2 =>
      rw [h2] at e
      simp only at e
      have h3 : pw q2.1 = pw c.ns := by rw [pw_head k h2, pw_head k h1]
      split at e
      · cases e; exact h3
      · split at e
        · cases e; rw [pw_joinTo]; exact h3
        · cases e; rw [pw_joinTo]; exact h3
theorem pw_run : ∀ (k : Nat) {c : Cl} {q}, runC k c = some q → pw q.1.ns = pw c.ns
  | 0, _, _, e => by cases e
  | k + 1, c, q, e => by
    rw [runC] at e
    cases h1 : c.ps.getLast? with
    | none => rw [h1] at e; cases e; rfl
    | some p =>
      rw [h1] at e
      simp only at e
      cases h2 : joinC k ⟨c.ns, c.vr, c.ps.dropLast⟩ p.1 p.2 with
      | none => rw [h2] at e; cases e
      | some q1 =>
        rw [h2] at e
        simp only at e
        split at e
        · rw [pw_run k e, pw_join h2]
        · cases e; rw [pw_join h2]
def plc (l : List (Tm × Tm)) : Nat := (l.map fun p => p.1.size + p.2.size).sum
theorem pw_all : ∀ {k : Nat} {l : List (Tm × Tm)} {c : Cl} {q}, joinAllC k l c = some q → pw q.1.ns ≤ pw c.ns + plc l
  | k, [], c, q, e => by cases e; exact Nat.le_refl _
  | k, p :: l, c, q, e => by
    rw [joinAllC] at e
    have hp : plc (p :: l) = p.1.size + p.2.size + plc l := by unfold plc; rw [List.map_cons, List.sum_cons]
    cases h2 : runC k (openC c p) with
    | none => rw [h2] at e; cases e
    | some q1 =>
      rw [h2] at e
      simp only at e
      have h3 : pw q1.1.ns = pw c.ns + p.1.size + p.2.size := by
        rw [pw_run k h2]
        show pw (addC (addC c p.1) p.2).ns = _
        rw [pw_add, pw_add]
      split at e
      · have := pw_all e; omega
      · cases e; omega
theorem pw_use {k : Nat} : ∀ (l : List Nat) {ns ns' : List Nd}, useC k l ns = some ns' → pw ns' = pw ns
  | [], ns, ns', e => by cases e; rfl
  | p :: l, ns, ns', e => by
    rw [useC] at e
    cases h1 : headC k ns p with
    | none => rw [h1] at e; cases e
    | some q =>
      rw [h1] at e
      simp only at e
      rw [pw_use l e, pw_us, pw_head k h1]
theorem pw_count {k : Nat} : ∀ (j n : Nat) {c : Cl} {hs : List Nat} {q}, countC k j n c hs = some q → pw q.1.ns = pw c.ns
  | 0, _, _, _, _, e => by cases e
  | j + 1, n, c, hs, q, e => by
    rw [countC] at e
    split at e
    · cases h1 : headC k c.ns n with
      | none => rw [h1] at e; cases e
      | some q1 =>
        rw [h1] at e
        simp only at e
        split at e
        · rw [pw_count j _ e]; exact pw_head k h1
        · cases h2 : useC k (List.range' (pC ⟨q1.1, c.vr, c.ps⟩ n).2.1 ((pC ⟨q1.1, c.vr, c.ps⟩ n).2.2 - (pC ⟨q1.1, c.vr, c.ps⟩ n).2.1)) (pC ⟨q1.1, c.vr, c.ps⟩ n).1.ns with
          | none => rw [h2] at e; cases e
          | some ns =>
            rw [h2] at e
            simp only at e
            rw [pw_count j _ e]
            show pw ns = _
            rw [pw_use _ h2, pw_parts]
            exact pw_head k h1
    · cases e; rfl
end Go.Proofs.YteegmcfobgpemaaGreat
