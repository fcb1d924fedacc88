/-
  Un8A AbRowO Un8B
-/
import Derived.Test.YtiammidklcjelabMg8
import Derived.Test.YtiammidklcjelabMg3
import Derived.Test.YtiammidklcjelabMg2
namespace Go.Proofs.Ytiammidklcjelab
open Go.RowKit
set_option linter.unusedVariables false
set_option linter.unusedSimpArgs false
set_option maxRecDepth 100000
theorem rep_cong0 {σ σ' : Int → Tm} (h : ∀ v, 0 ≤ v → σ' v = σ v) (t : Tm) : repT σ' t = repT σ t := rep_congr fun v hv => h v (vs_nonneg _ v hv)
theorem Mgu.congr {σ σ' : Int → Tm} {E : List (Tm × Tm)} (hm : Mgu σ E) (h : ∀ v, 0 ≤ v → σ' v = σ v) : Mgu σ' E :=
  ⟨fun p hp => by rw [rep_cong0 h, rep_cong0 h]; exact hm.uni p hp, fun v hv => by rw [h v hv]; exact hm.bare v hv, fun v hv u hu => by
    rw [h v hv] at hu
    rw [h u (vs_nonneg _ u hu)]; exact hm.idem v hv u hu, fun τ ht v hv => by rw [h v hv]; exact hm.most τ ht v hv, fun v hv hf => by
    rw [h v hv] at hf ⊢; exact hm.low v hv hf⟩
theorem img_normB {s : List Bd} (hb : bareB s) {v : Int} (hv : 0 ≤ v) : imgB (normF s) v = imgB s v := by
  have h1 := findN s hv
  have h2 : imgB (normF s) v = (findB (normF s) v).getD (varT v) := rfl
  rw [h2, h1]
  split
  · rename_i hi
    have hi : (decide ((imgB s v).f < 0) && decide (-1 - (imgB s v).f = v)) = true := hi
    rw [Bool.and_eq_true, decide_eq_true_eq, decide_eq_true_eq] at hi
    show varT v = _
    rw [bare_var (bare_img hb v) hi.1, hi.2]
  · exact bare_img hb v
structure Tells8 (l : List (Tm × Tm)) (r : List Bd × Bool) : Prop where
  told : ToldU l r
  yes : r.2 = true → Mgu (imgB r.1) l
  no : r.2 = false → r.1 = [] ∧ ∀ τ, ¬ uni τ l
  len : r.1.length ≤ 64
  ok : ∀ b ∈ r.1, (b.t.rng ∧ b.t.size ≤ 90000000000) ∧ b.t.ok
  bare : bareB r.1
  inV : ∀ b ∈ r.1, b.v ∈ varsP l ∧ ∀ u ∈ b.t.vs, u ∈ varsP l
  srt : r.1.Pairwise (fun x y => x.v < y.v)
  free : ∀ t u, u ∈ (repT (imgB r.1) t).vs → findB r.1 u = none
  big : ∀ q ∈ subsP l, (repT (imgB r.1) q).size ≤ 90000000000
theorem size_subs {l : List (Tm × Tm)} (ht : Tiny2 l) : ∀ q ∈ subsP l, q.size ≤ 16 := fun q hq => by
  have key : ∀ t : Tm, ∀ q ∈ t.flat, q.size ≤ t.size := by
    intro t
    induction t using Tm.indp with
    | h t ih =>
      intro q hq
      rw [Tm.flat_eq] at hq
      rcases List.mem_cons.1 hq with rfl | hq
      · exact Nat.le_refl _
      · obtain ⟨p, hp, hq⟩ := List.mem_flatMap.1 hq
        have := ih p hp q hq
        have := Tm.size_part hp
        omega
  obtain ⟨p, hp, hq⟩ := List.mem_flatMap.1 hq
  rcases List.mem_append.1 hq with hq | hq
  · exact Nat.le_trans (key _ q hq) (ht p hp).1.2
  · exact Nat.le_trans (key _ q hq) (ht p hp).2.2
theorem told_of {l : List (Tm × Tm)} (hl : l.length ≤ 2) (ht : Tiny2 l) : ∃ n r, rUs (rU n) l [] = some r ∧ CndL (rU n) (Cnd n) l [] ∧ (∀ s, r = some s → s.length ≤ 1000 ∧ ∀ b ∈ s, b.t.rng ∧ b.t.ok) ∧ Tells8 l ((r.map normF).getD [], r.isSome) := by
  obtain ⟨n, r, e, hC, h1, h2⟩ := all_mid l hl ht
  refine ⟨n, r, e, hC, fun s hs => ?_, ?_⟩
  · obtain ⟨_, _, _, m4, _, m6, _⟩ := h2 s hs
    exact ⟨by omega, m4⟩
  cases r with
  | none =>
    have hn := h1 rfl
    have hid : ∀ t : Tm, repT (imgB []) t = t.strip := fun t => rep_id t
    exact ⟨.inl ⟨rfl, rfl, hn⟩, (fun h => by cases h), fun _ => ⟨rfl, hn⟩, Nat.zero_le _, (fun b hb => by cases hb), (fun b hb => by cases hb), (fun b hb => by cases hb), List.Pairwise.nil, fun t u hu => rfl, fun q hq => by
      show (repT (imgB []) q).size ≤ _
      rw [hid, Tm.strip_size]
      have := size_subs ht q hq
      omega⟩
  | some s =>
    obtain ⟨m1, m2, m3, m4, m5, m6, m7, m8, m9⟩ := h2 s rfl
    have hi : ∀ v, 0 ≤ v → imgB (normF s) v = imgB s v := fun v hv => img_normB m2 hv
    have hbs : ∀ b ∈ normF s, ∃ c ∈ s, b.v = c.v ∧ b.t = c.t := fun b hb => by
      unfold normF at hb
      obtain ⟨c, hc, rfl⟩ := List.mem_map.1 hb
      have hcs := firstsF_mem (List.mem_filter.1 hc).1
      exact ⟨c, hcs, rfl, m2 c hcs⟩
    have hin : ∀ b ∈ normF s, findB (normF s) b.v = some b.t := fun b hb => by
      have key : ∀ L : List Bd, L.Pairwise (fun x y => x.v < y.v) → ∀ b ∈ L, findB L b.v = some b.t := fun L => by
        induction L with
        | nil => intro _ b hb; cases hb
        | cons a L ih =>
          intro hp b hb
          obtain ⟨p1, p2⟩ := List.pairwise_cons.1 hp
          rw [findB]
          rcases List.mem_cons.1 hb with rfl | hb
          · rw [if_pos rfl]
          · rw [if_neg (by have := p1 b hb; omega)]
            exact ih p2 b hb
      exact key _ (normF_srt s) b hb
    refine ⟨.inr ⟨rfl, s, m1, m5, m9, rfl⟩, fun _ => m1.congr hi, (fun h => by cases h), Nat.le_trans (normF_len s) m6, fun b hb => ?_, fun b hb => ?_, fun b hb => ?_, normF_srt s, fun t u hu => ?_, fun q hq => ?_⟩
    · obtain ⟨c, hc, e1, e2⟩ := hbs b hb
      have h0 : 0 ≤ b.v := by rw [e1]; exact m5 c hc
      have hf := hin b hb
      have him : imgB s b.v = b.t := by rw [← hi _ h0]; unfold imgB; rw [hf]; rfl
      refine ⟨⟨by rw [e2]; exact (m4 c hc).1, ?_⟩, by rw [e2]; exact (m4 c hc).2⟩
      rcases m9 b.v h0 with h | h
      · rw [← him, h, Tm.size_var (by rw [varT_f]; omega)]; decide
      · rw [← him]; exact h.2
    · obtain ⟨c, hc, _, e2⟩ := hbs b hb
      show b.t.strip = b.t
      rw [e2]; exact m2 c hc
    · obtain ⟨c, hc, e1, e2⟩ := hbs b hb
      rw [e1, e2]
      exact ⟨m7 c hc, m3 c hc⟩
    · have hu : u ∈ (repT (imgB (normF s)) t).vs := hu
      rw [rep_cong0 hi] at hu
      exact left_free m1 hu
    · show (repT (imgB (normF s)) q).size ≤ _
      rw [rep_cong0 hi]
      exact m8 q ⟨q, hq, rfl⟩
theorem Tells8.bdsOk {l : List (Tm × Tm)} {r : List Bd × Bool} (h : Tells8 l r) : bdsOk r.1 := fun b hb => (h.ok b hb).1
def tinyB (l : List Tm) : Bool := l.all fun t => decide (0 ≤ smallT t 16 8)
theorem tiny_facts {t : Tm} (h : 0 ≤ smallT t 16 8) : t.sm ∧ (t.rng ∧ t.ok) ∧ t.size ≤ 16 := by
  have hsm := small_sm t _ _ h
  have hwt : t.wt ≤ 16 := by have := (small_bounds t 16 8 (by decide)).2.2 h; omega
  exact ⟨hsm, ⟨Tm.sm_rng hsm, Tm.wt_ok (t := t) (by omega)⟩, Nat.le_trans t.size_wt hwt⟩
-- 
set_option maxHeartbeats 1000000 in
theorem tiny_abs (W : World) (l : List Tm) (hl : l.length ≤ 1000) (hr : ∀ t ∈ l, t.rng) : AFun Try.prog W 8 [.lst (l.map Tm.cv)] (.val (.b (tinyB l))) := by
  have hsz := Tm.size_all l
  refine afun_of (rs := [.b (tinyB l)]) Try.func8 Try.ntmps8 rfl rfl rfl rfl ?_
  intro w U hW
  refine aS (aR ?_)
  (refine nx (aA (gN rfl) rfl rfl rfl rfl rfl) rfl ?_)
  show AWp _ _ _ _ _ _ _
  refine aS (aS (aR ?_))
  (refine nx (aA (gN rfl) rfl rfl rfl rfl rfl) rfl ?_)
  show AWp _ _ _ _ _ _ _
  refine aB (awp_countI l.length (fun k => ∀ t ∈ l.take k, 0 ≤ smallT t 16 8) (fun k => [(0, .val (.lst (l.map Tm.cv))), (3, .val (.i k))]) (wk_sub ⟨rfl, rfl, trivial⟩) (by simp) ?_)
  intro k hk hI
  refine aS (aS (aR ?_))
  (refine nx (aM (gN rfl) rfl rfl rfl rfl rfl) rfl ?_)
  (refine nx (aM (gN rfl) rfl rfl rfl rfl rfl) rfl ?_)
  (refine nx (a_len (gN rfl) rfl rfl rfl rfl rfl rfl rfl) rfl ?_)
  (refine nx (a_lss (gN rfl) rfl rfl rfl rfl rfl rfl) rfl ?_)
  show AWp _ _ _ _ _ _ _
  refine aC rfl (fun hlt => ?_) (fun hlt => ?_)
  · have hkl : k < l.length := by simpa using hlt
    obtain ⟨t, ht⟩ : ∃ t, l[k]? = some t := ⟨l[k], List.getElem?_eq_getElem hkl⟩
    have ht' := Tm.map_at ht
    have hm := List.mem_of_getElem? ht
    have hs := small_abs w t 16 8 (hr t hm) (by decide) (by decide) (by decide) (by decide)
    refine aK ?_
    show AWp _ _ _ _ _ _ _
    refine aS (aB (aS (aR ?_)))
    (refine nx (aM (gN rfl) rfl rfl rfl rfl rfl) rfl ?_)
    (refine nx (aM (gN rfl) rfl rfl rfl rfl rfl) rfl ?_)
    (refine nx (a_index (j := k) (gN rfl) rfl rfl rfl rfl rfl rfl rfl rfl rfl (ht') rfl (hsz)) rfl ?_)
    (refine nx (a_load_ad (gN rfl) rfl rfl rfl rfl rfl rfl rfl rfl rfl) rfl ?_)
    (refine nx (a_call (gN rfl) rfl rfl rfl rfl rfl (hs)) rfl ?_)
    (refine nx (a_lss (gN rfl) rfl rfl rfl rfl rfl rfl) rfl ?_)
    show AWp _ _ _ _ _ _ _
    refine aC rfl (fun hc => ?_) (fun hc => ?_)
    · have hc : smallT t 16 8 < 0 := by simpa using hc
      have hno : tinyB l = false := by
        rw [← Bool.not_eq_true]
        intro h
        have := of_decide_eq_true (List.all_eq_true.1 h t hm)
        omega
      rw [hno]
      refine aS (aR ?_)
      (refine nx (aA (gN rfl) rfl rfl rfl rfl rfl) rfl ?_)
      show AWp _ _ _ _ _ _ _
      exact aT (And.intro (.inr rfl) rfl)
    · have hc : ¬ smallT t 16 8 < 0 := by simpa using hc
      refine aK ?_
      show AWp _ _ _ _ _ _ _
      refine aR ?_
      (refine nx (aM (gN rfl) rfl rfl rfl rfl rfl) rfl ?_)
      (refine nx (a_add (gN rfl) rfl rfl rfl rfl rfl rfl (by first | omega | (simp only [List.length_map, List.length_append, List.length_cons, List.length_nil] <;> omega) | (simp <;> omega))) rfl ?_)
      (refine nx (aA (gN rfl) rfl rfl rfl rfl rfl) rfl ?_)
      refine ⟨hkl, ?_, wk_sub ⟨rfl, rfl, trivial⟩⟩
      intro s hs
      rw [List.take_add_one, ht, List.mem_append] at hs
      rcases hs with hs | hs
      · exact hI s hs
      · simp at hs
        rw [hs]; omega
  · have hkl : k = l.length := by
      have : ¬ k < l.length := by simpa using hlt
      omega
    subst hkl
    rw [List.take_length] at hI
    have hyes : tinyB l = true := List.all_eq_true.2 fun t ht => decide_eq_true (hI t ht)
    rw [hyes]
    refine aE ?_
    show AWp _ _ _ _ _ _ _
    refine aS (aR ?_)
    (refine nx (aA (gN rfl) rfl rfl rfl rfl rfl) rfl ?_)
    show AWp _ _ _ _ _ _ _
    exact aT (And.intro (.inr rfl) rfl)
theorem tiny2_abs (W : World) {a b : Tm} (ha : a.rng) (hb : b.rng) : AFun Try.prog W 8 [.lst [a.cw, b.cw]] (.val (.b (tinyB [a, b]))) := by
  have := tiny_abs W [a, b] (by simp) (fun t ht => by
    rcases List.mem_cons.1 ht with rfl | ht
    · exact ha
    · rw [List.mem_singleton.1 ht]; exact hb)
  rw [List.map_cons, List.map_cons, List.map_nil, Tm.cv_eq, Tm.cv_eq] at this
  exact this
def exX : Tm := ⟨4, [⟨-1, []⟩, ⟨1, []⟩]⟩
def exY : Tm := ⟨4, [⟨3, [⟨-2, []⟩]⟩, ⟨-2, []⟩]⟩
def exU : List Bd := [⟨0, ⟨3, [⟨1, []⟩]⟩⟩, ⟨1, ⟨1, []⟩⟩]
theorem ex_img (v : Int) : imgB exU v = if v = 0 then ⟨3, [⟨1, []⟩]⟩ else if v = 1 then ⟨1, []⟩ else varT v := by
  unfold imgB exU
  rw [findB, findB, findB]
  by_cases h0 : v = 0
  · rw [if_pos h0.symm, if_pos h0]; rfl
  · rw [if_neg (Ne.symm h0), if_neg h0]
    by_cases h1 : v = 1
    · rw [if_pos h1.symm, if_pos h1]; rfl
    · rw [if_neg (Ne.symm h1), if_neg h1]; rfl
theorem ex_uni (τ : Int → Tm) : uni τ [(exX, exY)] ↔ (τ 0).strip = ⟨3, [⟨1, []⟩]⟩ ∧ (τ 1).strip = ⟨1, []⟩ := by
  rw [uni_one]
  have e1 : repT τ exX = ⟨4, [(τ 0).strip, ⟨1, []⟩]⟩ := by simp [exX, repT]
  have e2 : repT τ exY = ⟨4, [⟨3, [(τ 1).strip]⟩, (τ 1).strip]⟩ := by simp [exY, repT]
  rw [e1, e2]
  simp only [Tm.mk.injEq, List.cons.injEq, true_and, and_true]
  constructor
  · rintro ⟨h1, h2⟩
    rw [h1, ← h2]
    exact ⟨rfl, rfl⟩
  · rintro ⟨h1, h2⟩
    rw [h1, h2]
    exact ⟨rfl, rfl⟩
theorem ex_strip : (⟨3, [⟨1, []⟩]⟩ : Tm).strip = ⟨3, [⟨1, []⟩]⟩ ∧ (⟨1, []⟩ : Tm).strip = ⟨1, []⟩ := by
  constructor <;> simp [Tm.strip]
theorem ex_vs : (⟨3, [⟨1, []⟩]⟩ : Tm).vs = [] ∧ (⟨1, []⟩ : Tm).vs = [] := by
  have h : (⟨1, []⟩ : Tm).vs = [] := by rw [Tm.vs_sym (by decide)]; rfl
  refine ⟨?_, h⟩
  rw [Tm.vs_sym (by decide)]
  simp [h]
theorem ex_mgu : Mgu (imgB exU) [(exX, exY)] := by
  refine ⟨?_, fun v hv => ?_, fun v hv u hu => ?_, fun τ ht v hv => ?_, fun v hv hf => ?_⟩
  · rw [ex_uni, ex_img, ex_img, if_pos rfl, if_neg (by decide), if_pos rfl]
    exact ex_strip
  · rw [ex_img]
    split
    · exact ex_strip.1
    · split
      · exact ex_strip.2
      · exact varT_strip v
  · rw [ex_img] at hu
    split at hu
    · rw [ex_vs.1] at hu; cases hu
    · split at hu
      · rw [ex_vs.2] at hu; cases hu
      · rename_i h0 h1
        rw [Tm.vs_var (by rw [varT_f]; omega), varT_f, List.mem_singleton] at hu
        have : u = v := by omega
        rw [this, ex_img, if_neg h0, if_neg h1]
  · obtain ⟨h0, h1⟩ := (ex_uni τ).1 ht
    rw [ex_img]
    split
    · rename_i e
      rw [e, h0, rep_ground ex_vs.1, ex_strip.1]
    · split
      · rename_i e
        rw [e, h1, rep_ground ex_vs.2, ex_strip.2]
      · exact rep_varT hv
  · rw [ex_img] at hf ⊢
    split at hf
    · exact absurd hf (by decide)
    · split at hf
      · exact absurd hf (by decide)
      · rename_i h0 h1
        rw [if_neg h0, if_neg h1, varT_f]; omega
theorem ex_norm : normF exU = exU := by
  refine srt_eqU (normF_srt _) (by simp [exU]) fun v => ?_
  rw [findB_norm]
  have e : findB exU v = if (0 : Int) = v then some ⟨3, [⟨1, []⟩]⟩ else if (1 : Int) = v then some ⟨1, []⟩ else none := by
    unfold exU
    rw [findB, findB, findB]
  rw [e]
  by_cases h0 : (0 : Int) = v
  · rw [if_pos h0]
    show (if idleB ⟨v, ⟨3, [⟨1, []⟩]⟩⟩ then none else some _) = _
    rw [if_neg (by simp [idleB]), ex_strip.1]
  · rw [if_neg h0]
    by_cases h1 : (1 : Int) = v
    · rw [if_pos h1]
      show (if idleB ⟨v, ⟨1, []⟩⟩ then none else some _) = _
      rw [if_neg (by simp [idleB]), ex_strip.2]
    · rw [if_neg h1]
theorem ex_told : ToldU [(exX, exY)] (exU, true) := by
  refine .inr ⟨rfl, exU, ex_mgu, fun b hb => ?_, fun v hv => ?_, ex_norm.symm⟩
  · simp only [exU, List.mem_cons, List.not_mem_nil, or_false] at hb
    rcases hb with rfl | rfl <;> decide
  · rw [ex_img]
    split
    · exact .inr ⟨by simp [Tm.rng], by simp [Tm.size, Tm.flat]⟩
    · split
      · exact .inr ⟨by simp [Tm.rng], by simp [Tm.size, Tm.flat]⟩
      · exact .inl rfl
theorem ex_can : canB ⟨-1, []⟩ ⟨3, [⟨-1, []⟩]⟩ = false := canB_no fun τ h => by
  rw [uni_one] at h
  exact no_self τ ⟨-1, []⟩ (f := 3) (by decide) h
-- 
set_option maxHeartbeats 2000000 in
theorem alive8_abs (W : World) : AFun Try.prog W 7 [] (.val (.b true)) := by
  have hx : exX.rng ∧ exX.ok := ⟨by simp [exX, Tm.rng], by simp [exX, Tm.ok]⟩
  have hy : exY.rng ∧ exY.ok := ⟨by simp [exY, Tm.rng], by simp [exY, Tm.ok]⟩
  have hs : exX.size + exY.size ≤ 1000 := by simp [exX, exY, Tm.size, Tm.flat]
  refine afun_of (rs := [.b true]) Try.func7 Try.ntmps7 rfl rfl rfl rfl ?_
  intro w U hW
  have hu := uUnify_abs w exX exY hx.1 hx.2 hy.1 hy.2 hs (exU, true) ex_told
  have hc := uCan_abs w ⟨-1, []⟩ ⟨3, [⟨-1, []⟩]⟩ (by simp [Tm.rng]) (by simp [Tm.ok]) (by simp [Tm.rng]) (by simp [Tm.ok]) (by simp [Tm.size, Tm.flat])
  rw [ex_can] at hc
  have hex : exX.cw = .row [.i 4, .lst [.row [.i (-1), .lst []], .row [.i 1, .lst []]]] := by simp [exX, Tm.cv_eq]
  have hey : exY.cw = .row [.i 4, .lst [.row [.i 3, .lst [.row [.i (-2), .lst []]]], .row [.i (-2), .lst []]]] := by simp [exY, Tm.cv_eq]
  have heu : exU.map Bd.cv = [.row [.i 0, .row [.i 3, .lst [.row [.i 1, .lst []]]]], .row [.i 1, .row [.i 1, .lst []]]] := by simp [exU, Bd.cv, Bd.cw, Tm.cv_eq]
  have hcw : Tm.cw ⟨3, [⟨-1, []⟩]⟩ = .row [.i 3, .lst [.row [.i (-1), .lst []]]] := by simp [Tm.cv_eq]
  have hcv : Tm.cw ⟨-1, []⟩ = .row [.i (-1), .lst []] := by simp
  rw [hex, hey] at hu
  simp only [heu] at hu
  rw [hcw, hcv] at hc
  refine aS (aR ?_)
  (refine nx (aA (gN rfl) rfl rfl rfl rfl rfl) rfl ?_)
  show AWp _ _ _ _ _ _ _
  refine aS (aR ?_)
  (refine nx (a_buildP (gN rfl) rfl rfl rfl rfl rfl rfl rfl rfl rfl rfl rfl) rfl ?_)
  (refine nx (a_buildP (gN rfl) rfl rfl rfl rfl rfl rfl rfl rfl rfl rfl rfl) rfl ?_)
  (refine nx (a_bslice (gN rfl) rfl rfl rfl rfl rfl rfl rfl rfl rfl rfl rfl rfl rfl) rfl ?_)
  (refine nx (a_build (gN rfl) rfl rfl rfl rfl rfl rfl rfl rfl rfl rfl rfl) rfl ?_)
  (refine nx (a_alloc (gN rfl) rfl rfl rfl rfl rfl rfl rfl rfl rfl rfl) rfl ?_)
  (refine nx (aSt (gN rfl) rfl rfl rfl rfl rfl rfl rfl rfl rfl rfl) rfl ?_)
  show AWp _ _ _ _ _ _ _
  refine aS (aR ?_)
  (refine nx (a_build (gN rfl) rfl rfl rfl rfl rfl rfl rfl rfl rfl rfl rfl) rfl ?_)
  (refine nx (a_bslice (gN rfl) rfl rfl rfl rfl rfl rfl rfl rfl rfl rfl rfl rfl rfl) rfl ?_)
  (refine nx (a_build (gN rfl) rfl rfl rfl rfl rfl rfl rfl rfl rfl rfl rfl) rfl ?_)
  (refine nx (a_build (gN rfl) rfl rfl rfl rfl rfl rfl rfl rfl rfl rfl rfl) rfl ?_)
  (refine nx (a_bslice (gN rfl) rfl rfl rfl rfl rfl rfl rfl rfl rfl rfl rfl rfl rfl) rfl ?_)
  (refine nx (a_build (gN rfl) rfl rfl rfl rfl rfl rfl rfl rfl rfl rfl rfl) rfl ?_)
  (refine nx (a_alloc (gN rfl) rfl rfl rfl rfl rfl rfl rfl rfl rfl rfl) rfl ?_)
  (refine nx (aSt (gN rfl) rfl rfl rfl rfl rfl rfl rfl rfl rfl rfl) rfl ?_)
  show AWp _ _ _ _ _ _ _
  refine aS (aR ?_)
  (refine nx (aL (gN rfl) rfl rfl rfl rfl rfl rfl rfl rfl rfl rfl rfl rfl) rfl ?_)
  (refine nx (aL (gN rfl) rfl rfl rfl rfl rfl rfl rfl rfl rfl rfl rfl rfl) rfl ?_)
  (refine nx (a_call (gN rfl) rfl rfl rfl rfl rfl (hu)) rfl ?_)
  (refine nx (aM (gN rfl) rfl rfl rfl rfl rfl) rfl ?_)
  (refine nx (aX (gN rfl) rfl rfl rfl rfl rfl rfl) rfl ?_)
  (refine nx (aX (gN rfl) rfl rfl rfl rfl rfl rfl) rfl ?_)
  (refine nx (aA (gN rfl) rfl rfl rfl rfl rfl) rfl ?_)
  (refine nx (aA (gN rfl) rfl rfl rfl rfl rfl) rfl ?_)
  show AWp _ _ _ _ _ _ _
  refine aS (aR ?_)
  (refine nx (aM (gN rfl) rfl rfl rfl rfl rfl) rfl ?_)
  (refine nx (aM (gN rfl) rfl rfl rfl rfl rfl) rfl ?_)
  (refine nx (aM (gd_on rfl rfl rfl rfl (by first | rfl | assumption | (simp; done))) rfl rfl rfl rfl rfl) rfl ?_)
  (refine nx (a_len (gd_on rfl rfl rfl rfl (by first | rfl | assumption | (simp; done))) rfl rfl rfl rfl rfl rfl rfl) rfl ?_)
  (refine nx (a_eql (gd_on rfl rfl rfl rfl (by first | rfl | assumption | (simp; done))) rfl rfl rfl rfl rfl rfl) rfl ?_)
  (refine ⟨_, _, _, aPt (gN rfl) rfl rfl rfl rfl rfl ?hb rfl, rfl, ?_⟩; case hb => (first | rfl | assumption | (simp; done)))
  (refine nx (aM (gN rfl) rfl rfl rfl rfl rfl) rfl ?_)
  (refine nx (aM (gd_on rfl rfl rfl rfl (by first | rfl | assumption | (simp; done))) rfl rfl rfl rfl rfl) rfl ?_)
  (refine nx (a_index (j := 0) (gd_on rfl rfl rfl rfl (by first | rfl | assumption | (simp; done))) rfl rfl rfl rfl rfl rfl rfl rfl rfl (rfl) rfl (sZ rfl)) rfl ?_)
  (refine nx (a_field_ad (gd_on rfl rfl rfl rfl (by first | rfl | assumption | (simp; done))) rfl rfl rfl rfl rfl rfl rfl rfl rfl rfl rfl) rfl ?_)
  (refine nx (a_load_ad (gd_on rfl rfl rfl rfl (by first | rfl | assumption | (simp; done))) rfl rfl rfl rfl rfl rfl rfl rfl rfl) rfl ?_)
  (refine nx (a_eql (gd_on rfl rfl rfl rfl (by first | rfl | assumption | (simp; done))) rfl rfl rfl rfl rfl rfl) rfl ?_)
  (refine ⟨_, _, _, aPt (gN rfl) rfl rfl rfl rfl rfl ?hb rfl, rfl, ?_⟩; case hb => (first | rfl | assumption | (simp; done)))
  (refine nx (aM (gN rfl) rfl rfl rfl rfl rfl) rfl ?_)
  (refine nx (aM (gd_on rfl rfl rfl rfl (by first | rfl | assumption | (simp; done))) rfl rfl rfl rfl rfl) rfl ?_)
  (refine nx (a_index (j := 0) (gd_on rfl rfl rfl rfl (by first | rfl | assumption | (simp; done))) rfl rfl rfl rfl rfl rfl rfl rfl rfl (rfl) rfl (sZ rfl)) rfl ?_)
  (refine nx (a_field_ad (gd_on rfl rfl rfl rfl (by first | rfl | assumption | (simp; done))) rfl rfl rfl rfl rfl rfl rfl rfl rfl rfl rfl) rfl ?_)
  (refine nx (a_field_ad (gd_on rfl rfl rfl rfl (by first | rfl | assumption | (simp; done))) rfl rfl rfl rfl rfl rfl rfl rfl rfl rfl rfl) rfl ?_)
  (refine nx (a_load_ad (gd_on rfl rfl rfl rfl (by first | rfl | assumption | (simp; done))) rfl rfl rfl rfl rfl rfl rfl rfl rfl) rfl ?_)
  (refine nx (a_eql (gd_on rfl rfl rfl rfl (by first | rfl | assumption | (simp; done))) rfl rfl rfl rfl rfl rfl) rfl ?_)
  (refine ⟨_, _, _, aPt (gN rfl) rfl rfl rfl rfl rfl ?hb rfl, rfl, ?_⟩; case hb => (first | rfl | assumption | (simp; done)))
  (refine nx (aM (gN rfl) rfl rfl rfl rfl rfl) rfl ?_)
  (refine nx (aM (gd_on rfl rfl rfl rfl (by first | rfl | assumption | (simp; done))) rfl rfl rfl rfl rfl) rfl ?_)
  (refine nx (a_index (j := 0) (gd_on rfl rfl rfl rfl (by first | rfl | assumption | (simp; done))) rfl rfl rfl rfl rfl rfl rfl rfl rfl (rfl) rfl (sZ rfl)) rfl ?_)
  (refine nx (a_field_ad (gd_on rfl rfl rfl rfl (by first | rfl | assumption | (simp; done))) rfl rfl rfl rfl rfl rfl rfl rfl rfl rfl rfl) rfl ?_)
  (refine nx (a_field_ad (gd_on rfl rfl rfl rfl (by first | rfl | assumption | (simp; done))) rfl rfl rfl rfl rfl rfl rfl rfl rfl rfl rfl) rfl ?_)
  (refine nx (a_load_ad (gd_on rfl rfl rfl rfl (by first | rfl | assumption | (simp; done))) rfl rfl rfl rfl rfl rfl rfl rfl rfl) rfl ?_)
  (refine nx (a_index (j := 0) (gd_on rfl rfl rfl rfl (by first | rfl | assumption | (simp; done))) rfl rfl rfl rfl rfl rfl rfl rfl rfl (rfl) rfl (sZ rfl)) rfl ?_)
  (refine nx (a_field_ad (gd_on rfl rfl rfl rfl (by first | rfl | assumption | (simp; done))) rfl rfl rfl rfl rfl rfl rfl rfl rfl rfl rfl) rfl ?_)
  (refine nx (a_load_ad (gd_on rfl rfl rfl rfl (by first | rfl | assumption | (simp; done))) rfl rfl rfl rfl rfl rfl rfl rfl rfl) rfl ?_)
  (refine nx (a_eql (gd_on rfl rfl rfl rfl (by first | rfl | assumption | (simp; done))) rfl rfl rfl rfl rfl rfl) rfl ?_)
  (refine ⟨_, _, _, aPt (gN rfl) rfl rfl rfl rfl rfl ?hb rfl, rfl, ?_⟩; case hb => (first | rfl | assumption | (simp; done)))
  (refine nx (aM (gN rfl) rfl rfl rfl rfl rfl) rfl ?_)
  (refine nx (aM (gd_on rfl rfl rfl rfl (by first | rfl | assumption | (simp; done))) rfl rfl rfl rfl rfl) rfl ?_)
  (refine nx (a_index (j := 1) (gd_on rfl rfl rfl rfl (by first | rfl | assumption | (simp; done))) rfl rfl rfl rfl rfl rfl rfl rfl rfl (rfl) rfl (sZ rfl)) rfl ?_)
  (refine nx (a_field_ad (gd_on rfl rfl rfl rfl (by first | rfl | assumption | (simp; done))) rfl rfl rfl rfl rfl rfl rfl rfl rfl rfl rfl) rfl ?_)
  (refine nx (a_field_ad (gd_on rfl rfl rfl rfl (by first | rfl | assumption | (simp; done))) rfl rfl rfl rfl rfl rfl rfl rfl rfl rfl rfl) rfl ?_)
  (refine nx (a_load_ad (gd_on rfl rfl rfl rfl (by first | rfl | assumption | (simp; done))) rfl rfl rfl rfl rfl rfl rfl rfl rfl) rfl ?_)
  (refine nx (a_eql (gd_on rfl rfl rfl rfl (by first | rfl | assumption | (simp; done))) rfl rfl rfl rfl rfl rfl) rfl ?_)
  (refine ⟨_, _, _, aPt (gN rfl) rfl rfl rfl rfl rfl ?hb rfl, rfl, ?_⟩; case hb => (first | rfl | assumption | (simp; done)))
  (refine nx (aM (gN rfl) rfl rfl rfl rfl rfl) rfl ?_)
  (refine nx (a_build (gd_on rfl rfl rfl rfl (by first | rfl | assumption | (simp; done))) rfl rfl rfl rfl rfl rfl rfl rfl rfl rfl rfl) rfl ?_)
  (refine nx (a_build (gd_on rfl rfl rfl rfl (by first | rfl | assumption | (simp; done))) rfl rfl rfl rfl rfl rfl rfl rfl rfl rfl rfl) rfl ?_)
  (refine nx (a_bslice (gd_on rfl rfl rfl rfl (by first | rfl | assumption | (simp; done))) rfl rfl rfl rfl rfl rfl rfl rfl rfl rfl rfl rfl rfl) rfl ?_)
  (refine nx (a_build (gd_on rfl rfl rfl rfl (by first | rfl | assumption | (simp; done))) rfl rfl rfl rfl rfl rfl rfl rfl rfl rfl rfl) rfl ?_)
  (refine nx (a_call (gd_on rfl rfl rfl rfl (by first | rfl | assumption | (simp; done))) rfl rfl rfl rfl rfl (hc)) rfl ?_)
  (refine nx (a_not (gd_on rfl rfl rfl rfl (by first | rfl | assumption | (simp; done))) rfl rfl rfl rfl rfl) rfl ?_)
  (refine ⟨_, _, _, aPt (gN rfl) rfl rfl rfl rfl rfl ?hb rfl, rfl, ?_⟩; case hb => (first | rfl | assumption | (simp; done)))
  (refine nx (aA (gN rfl) rfl rfl rfl rfl rfl) rfl ?_)
  show AWp _ _ _ _ _ _ _
  exact aT (And.intro (.inr rfl) rfl)

theorem nodup_sub_len : ∀ {l m : List Int}, l.Nodup → (∀ x ∈ l, x ∈ m) → l.length ≤ m.length
  | [], _, _, _ => Nat.zero_le _
  | a :: l, m, hn, hs => by
    obtain ⟨h1, h2⟩ := List.nodup_cons.1 hn
    have ha := hs a (by simp)
    have := nodup_sub_len (l := l) (m := m.erase a) h2 fun x hx => (List.mem_erase_of_ne (a := x) (b := a) (fun e => h1 (by rw [← e]; exact hx))).2 (hs x (List.mem_cons_of_mem _ hx))
    rw [List.length_erase_of_mem ha] at this
    have := List.length_pos_of_mem ha
    rw [List.length_cons]
    omega
theorem mem_vp {a b : Tm} {u : Int} (h : u ∈ varsP [(a, b)]) : u ∈ varsF a.flat ++ varsF b.flat := by
  obtain ⟨p, hp, h⟩ := List.mem_flatMap.1 h
  rw [List.mem_singleton] at hp
  subst hp
  rw [nv_vars, nv_vars, List.mem_append]
  rcases List.mem_append.1 h with h | h
  · exact .inl ((mem_nub _ _).2 h)
  · exact .inr ((mem_nub _ _).2 h)
theorem vp_of {a b : Tm} : (∀ u ∈ a.vs, u ∈ varsP [(a, b)]) ∧ ∀ u ∈ b.vs, u ∈ varsP [(a, b)] :=
  ⟨fun u h => List.mem_flatMap.2 ⟨(a, b), by simp, List.mem_append_left _ h⟩, fun u h => List.mem_flatMap.2 ⟨(a, b), by simp, List.mem_append_right _ h⟩⟩
theorem tiny2_of {a b : Tm} (ha : 0 ≤ smallT a 16 8) (hb : 0 ≤ smallT b 16 8) : Tiny2 [(a, b)] := fun p hp => by
  rw [List.mem_singleton] at hp
  rw [hp]
  exact ⟨(tiny_facts ha).2, (tiny_facts hb).2⟩
theorem tinyB_two {a b : Tm} (h : tinyB [a, b] = true) : 0 ≤ smallT a 16 8 ∧ 0 ≤ smallT b 16 8 := by
  have h1 := List.all_eq_true.1 h
  exact ⟨of_decide_eq_true (h1 a (by simp)), of_decide_eq_true (h1 b (by simp))⟩
theorem vars8_len (t : Tm) : (varsF t.flat).length ≤ t.size := by
  rw [nv_vars]
  exact Nat.le_trans (nubL8 t.vs) (vsL8 t)
theorem rep_rng {s : List Bd} (hs : bdsOk s) {t : Tm} (h : t.rng) : (repT (imgB s) t).rng := repT_rng h fun v h1 h2 => (imgB_ok hs h1 h2).1
theorem ToldU.eqv {l m : List (Tm × Tm)} {r : List Bd × Bool} (h : ToldU l r) (he : ∀ τ, uni τ l ↔ uni τ m) : ToldU m r := by
  rcases h with ⟨h1, h2, h3⟩ | ⟨h1, s, h2, h3⟩
  · exact .inl ⟨h1, h2, fun τ ht => h3 τ ((he τ).2 ht)⟩
  · exact .inr ⟨h1, s, h2.eqv he, h3⟩
end Go.Proofs.Ytiammidklcjelab
