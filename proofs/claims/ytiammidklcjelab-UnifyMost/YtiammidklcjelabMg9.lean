/-
  Un8A AbRowO Un8B AbMapT UnSolv AbLend
-/
import Derived.Test.YtiammidklcjelabMg8
import Derived.Test.YtiammidklcjelabMg3
import Derived.Test.YtiammidklcjelabMg2
import Derived.Test.YtiammidklcjelabMg7
import Derived.Test.YtiammidklcjelabMg4
namespace Go.Proofs.Ytiammidklcjelab
open Go.RowKit
set_option linter.unusedVariables false
set_option linter.unusedSimpArgs false
set_option maxRecDepth 100000
theorem rep_cong0 {σ σ' : Int → Tm} (h : ∀ v, 0 ≤ v → σ' v = σ v) (t : Tm) : repT σ' t = repT σ t := rep_congr fun v hv => h v (vs_nonneg _ v hv)
theorem Mgu.congr {σ σ' : Int → Tm} {E : List (Tm × Tm)} (hm : Mgu σ E) (h : ∀ v, 0 ≤ v → σ' v = σ v) : Mgu σ' E :=
  ⟨fun p hp => by rw [rep_cong0 h, rep_cong0 h]; exact hm.uni p hp, fun v hv => by rw [h v hv]; exact hm.bare v hv, fun v hv u hu => by
    rw [h v hv] at hu
    rw [h u (vs_nonneg _ u hu)]; exact hm.idem v hv u hu, fun τ ht v hv => by rw [h v hv]; exact hm.most τ ht v hv, fun v hv hf => by
    rw [h v hv] at hf ⊢; exact hm.low v hv hf⟩
theorem img_normB {s : List Bd} (hb : bareB s) {v : Int} (hv : 0 ≤ v) : imgB (normF s) v = imgB s v := by
  have h1 := findN s hv
  have h2 : imgB (normF s) v = (findB (normF s) v).getD (varT v) := rfl
  rw [h2, h1]
  split
  · rename_i hi
    have hi : (decide ((imgB s v).f < 0) && decide (-1 - (imgB s v).f = v)) = true := hi
    rw [Bool.and_eq_true, decide_eq_true_eq, decide_eq_true_eq] at hi
    show varT v = _
    rw [bare_var (bare_img hb v) hi.1, hi.2]
  · exact bare_img hb v
structure Tells8 (l : List (Tm × Tm)) (r : List Bd × Bool) : Prop where
  told : ToldU l r
  yes : r.2 = true → Mgu (imgB r.1) l
  no : r.2 = false → r.1 = [] ∧ ∀ τ, ¬ uni τ l
  len : r.1.length ≤ 64
  ok : ∀ b ∈ r.1, (b.t.rng ∧ b.t.size ≤ 90000000000) ∧ b.t.ok
  bare : bareB r.1
  inV : ∀ b ∈ r.1, b.v ∈ varsP l ∧ ∀ u ∈ b.t.vs, u ∈ varsP l
  srt : r.1.Pairwise (fun x y => x.v < y.v)
  free : ∀ t u, u ∈ (repT (imgB r.1) t).vs → findB r.1 u = none
  big : ∀ q ∈ subsP l, (repT (imgB r.1) q).size ≤ 90000000000
theorem size_subs {l : List (Tm × Tm)} (ht : Tiny2 l) : ∀ q ∈ subsP l, q.size ≤ 16 := fun q hq => by
  have key : ∀ t : Tm, ∀ q ∈ t.flat, q.size ≤ t.size := by
    intro t
    induction t using Tm.indp with
    | h t ih =>
      intro q hq
      rw [Tm.flat_eq] at hq
      rcases List.mem_cons.1 hq with rfl | hq
      · exact Nat.le_refl _
      · obtain ⟨p, hp, hq⟩ := List.mem_flatMap.1 hq
        have := ih p hp q hq
        have := Tm.size_part hp
        omega
  obtain ⟨p, hp, hq⟩ := List.mem_flatMap.1 hq
  rcases List.mem_append.1 hq with hq | hq
  · exact Nat.le_trans (key _ q hq) (ht p hp).1.2
  · exact Nat.le_trans (key _ q hq) (ht p hp).2.2
theorem told_of {l : List (Tm × Tm)} (hl : l.length ≤ 2) (ht : Tiny2 l) : ∃ n r, rUs (rU n) l [] = some r ∧ CndL (rU n) (Cnd n) l [] ∧ (∀ s, r = some s → s.length ≤ 1000 ∧ ∀ b ∈ s, b.t.rng ∧ b.t.ok) ∧ Tells8 l ((r.map normF).getD [], r.isSome) := by
  obtain ⟨n, r, e, hC, h1, h2⟩ := all_mid l hl ht
  refine ⟨n, r, e, hC, fun s hs => ?_, ?_⟩
  · obtain ⟨_, _, _, m4, _, m6, _⟩ := h2 s hs
    exact ⟨by omega, m4⟩
  cases r with
  | none =>
    have hn := h1 rfl
    have hid : ∀ t : Tm, repT (imgB []) t = t.strip := fun t => rep_id t
    exact ⟨.inl ⟨rfl, rfl, hn⟩, (fun h => by cases h), fun _ => ⟨rfl, hn⟩, Nat.zero_le _, (fun b hb => by cases hb), (fun b hb => by cases hb), (fun b hb => by cases hb), List.Pairwise.nil, fun t u hu => rfl, fun q hq => by
      show (repT (imgB []) q).size ≤ _
      rw [hid, Tm.strip_size]
      have := size_subs ht q hq
      omega⟩
  | some s =>
    obtain ⟨m1, m2, m3, m4, m5, m6, m7, m8, m9⟩ := h2 s rfl
    have hi : ∀ v, 0 ≤ v → imgB (normF s) v = imgB s v := fun v hv => img_normB m2 hv
    have hbs : ∀ b ∈ normF s, ∃ c ∈ s, b.v = c.v ∧ b.t = c.t := fun b hb => by
      unfold normF at hb
      obtain ⟨c, hc, rfl⟩ := List.mem_map.1 hb
      have hcs := firstsF_mem (List.mem_filter.1 hc).1
      exact ⟨c, hcs, rfl, m2 c hcs⟩
    have hin : ∀ b ∈ normF s, findB (normF s) b.v = some b.t := fun b hb => by
      have key : ∀ L : List Bd, L.Pairwise (fun x y => x.v < y.v) → ∀ b ∈ L, findB L b.v = some b.t := fun L => by
        induction L with
        | nil => intro _ b hb; cases hb
        | cons a L ih =>
          intro hp b hb
          obtain ⟨p1, p2⟩ := List.pairwise_cons.1 hp
          rw [findB]
          rcases List.mem_cons.1 hb with rfl | hb
          · rw [if_pos rfl]
          · rw [if_neg (by have := p1 b hb; omega)]
            exact ih p2 b hb
      exact key _ (normF_srt s) b hb
    refine ⟨.inr ⟨rfl, s, m1, m5, m9, rfl⟩, fun _ => m1.congr hi, (fun h => by cases h), Nat.le_trans (normF_len s) m6, fun b hb => ?_, fun b hb => ?_, fun b hb => ?_, normF_srt s, fun t u hu => ?_, fun q hq => ?_⟩
    · obtain ⟨c, hc, e1, e2⟩ := hbs b hb
      have h0 : 0 ≤ b.v := by rw [e1]; exact m5 c hc
      have hf := hin b hb
      have him : imgB s b.v = b.t := by rw [← hi _ h0]; unfold imgB; rw [hf]; rfl
      refine ⟨⟨by rw [e2]; exact (m4 c hc).1, ?_⟩, by rw [e2]; exact (m4 c hc).2⟩
      rcases m9 b.v h0 with h | h
      · rw [← him, h, Tm.size_var (by rw [varT_f]; omega)]; decide
      · rw [← him]; exact h.2
    · obtain ⟨c, hc, _, e2⟩ := hbs b hb
      show b.t.strip = b.t
      rw [e2]; exact m2 c hc
    · obtain ⟨c, hc, e1, e2⟩ := hbs b hb
      rw [e1, e2]
      exact ⟨m7 c hc, m3 c hc⟩
    · have hu : u ∈ (repT (imgB (normF s)) t).vs := hu
      rw [rep_cong0 hi] at hu
      exact left_free m1 hu
    · show (repT (imgB (normF s)) q).size ≤ _
      rw [rep_cong0 hi]
      exact m8 q ⟨q, hq, rfl⟩
theorem Tells8.bdsOk {l : List (Tm × Tm)} {r : List Bd × Bool} (h : Tells8 l r) : bdsOk r.1 := fun b hb => (h.ok b hb).1
def tinyB (l : List Tm) : Bool := l.all fun t => decide (0 ≤ smallT t 16 8)
theorem tiny_facts {t : Tm} (h : 0 ≤ smallT t 16 8) : t.sm ∧ (t.rng ∧ t.ok) ∧ t.size ≤ 16 := by
  have hsm := small_sm t _ _ h
  have hwt : t.wt ≤ 16 := by have := (small_bounds t 16 8 (by decide)).2.2 h; omega
  exact ⟨hsm, ⟨Tm.sm_rng hsm, Tm.wt_ok (t := t) (by omega)⟩, Nat.le_trans t.size_wt hwt⟩
-- 
set_option maxHeartbeats 1000000 in
theorem tiny_abs (W : World) (l : List Tm) (hl : l.length ≤ 1000) (hr : ∀ t ∈ l, t.rng) : AFun Try.prog W 8 [.lst (l.map Tm.cv)] (.val (.b (tinyB l))) := by
  have hsz := Tm.size_all l
  refine afun_of (rs := [.b (tinyB l)]) Try.func8 Try.ntmps8 rfl rfl rfl rfl ?_
  intro w U hW
  refine aS (aR ?_)
  (refine nx (aA (gN rfl) rfl rfl rfl rfl rfl) rfl ?_)
  show AWp _ _ _ _ _ _ _
  refine aS (aS (aR ?_))
  (refine nx (aA (gN rfl) rfl rfl rfl rfl rfl) rfl ?_)
  show AWp _ _ _ _ _ _ _
  refine aB (awp_countI l.length (fun k => ∀ t ∈ l.take k, 0 ≤ smallT t 16 8) (fun k => [(0, .val (.lst (l.map Tm.cv))), (3, .val (.i k))]) (wk_sub ⟨rfl, rfl, trivial⟩) (by simp) ?_)
  intro k hk hI
  refine aS (aS (aR ?_))
  (refine nx (aM (gN rfl) rfl rfl rfl rfl rfl) rfl ?_)
  (refine nx (aM (gN rfl) rfl rfl rfl rfl rfl) rfl ?_)
  (refine nx (a_len (gN rfl) rfl rfl rfl rfl rfl rfl rfl) rfl ?_)
  (refine nx (a_lss (gN rfl) rfl rfl rfl rfl rfl rfl) rfl ?_)
  show AWp _ _ _ _ _ _ _
  refine aC rfl (fun hlt => ?_) (fun hlt => ?_)
  · have hkl : k < l.length := by simpa using hlt
    obtain ⟨t, ht⟩ : ∃ t, l[k]? = some t := ⟨l[k], List.getElem?_eq_getElem hkl⟩
    have ht' := Tm.map_at ht
    have hm := List.mem_of_getElem? ht
    have hs := small_abs w t 16 8 (hr t hm) (by decide) (by decide) (by decide) (by decide)
    refine aK ?_
    show AWp _ _ _ _ _ _ _
    refine aS (aB (aS (aR ?_)))
    (refine nx (aM (gN rfl) rfl rfl rfl rfl rfl) rfl ?_)
    (refine nx (aM (gN rfl) rfl rfl rfl rfl rfl) rfl ?_)
    (refine nx (a_index (j := k) (gN rfl) rfl rfl rfl rfl rfl rfl rfl rfl rfl (ht') rfl (hsz)) rfl ?_)
    (refine nx (a_load_ad (gN rfl) rfl rfl rfl rfl rfl rfl rfl rfl rfl) rfl ?_)
    (refine nx (a_call (gN rfl) rfl rfl rfl rfl rfl (hs)) rfl ?_)
    (refine nx (a_lss (gN rfl) rfl rfl rfl rfl rfl rfl) rfl ?_)
    show AWp _ _ _ _ _ _ _
    refine aC rfl (fun hc => ?_) (fun hc => ?_)
    · have hc : smallT t 16 8 < 0 := by simpa using hc
      have hno : tinyB l = false := by
        rw [← Bool.not_eq_true]
        intro h
        have := of_decide_eq_true (List.all_eq_true.1 h t hm)
        omega
      rw [hno]
      refine aS (aR ?_)
      (refine nx (aA (gN rfl) rfl rfl rfl rfl rfl) rfl ?_)
      show AWp _ _ _ _ _ _ _
      exact aT (And.intro (.inr rfl) rfl)
    · have hc : ¬ smallT t 16 8 < 0 := by simpa using hc
      refine aK ?_
      show AWp _ _ _ _ _ _ _
      refine aR ?_
      (refine nx (aM (gN rfl) rfl rfl rfl rfl rfl) rfl ?_)
      (refine nx (a_add (gN rfl) rfl rfl rfl rfl rfl rfl (by first | omega | (simp only [List.length_map, List.length_append, List.length_cons, List.length_nil] <;> omega) | (simp <;> omega))) rfl ?_)
      (refine nx (aA (gN rfl) rfl rfl rfl rfl rfl) rfl ?_)
      refine ⟨hkl, ?_, wk_sub ⟨rfl, rfl, trivial⟩⟩
      intro s hs
      rw [List.take_add_one, ht, List.mem_append] at hs
      rcases hs with hs | hs
      · exact hI s hs
      · simp at hs
        rw [hs]; omega
  · have hkl : k = l.length := by
      have : ¬ k < l.length := by simpa using hlt
      omega
    subst hkl
    rw [List.take_length] at hI
    have hyes : tinyB l = true := List.all_eq_true.2 fun t ht => decide_eq_true (hI t ht)
    rw [hyes]
    refine aE ?_
    show AWp _ _ _ _ _ _ _
    refine aS (aR ?_)
    (refine nx (aA (gN rfl) rfl rfl rfl rfl rfl) rfl ?_)
    show AWp _ _ _ _ _ _ _
    exact aT (And.intro (.inr rfl) rfl)
theorem tiny2_abs (W : World) {a b : Tm} (ha : a.rng) (hb : b.rng) : AFun Try.prog W 8 [.lst [a.cw, b.cw]] (.val (.b (tinyB [a, b]))) := by
  have := tiny_abs W [a, b] (by simp) (fun t ht => by
    rcases List.mem_cons.1 ht with rfl | ht
    · exact ha
    · rw [List.mem_singleton.1 ht]; exact hb)
  rw [List.map_cons, List.map_cons, List.map_nil, Tm.cv_eq, Tm.cv_eq] at this
  exact this
def exX : Tm := ⟨4, [⟨-1, []⟩, ⟨1, []⟩]⟩
def exY : Tm := ⟨4, [⟨3, [⟨-2, []⟩]⟩, ⟨-2, []⟩]⟩
def exU : List Bd := [⟨0, ⟨3, [⟨1, []⟩]⟩⟩, ⟨1, ⟨1, []⟩⟩]
theorem ex_img (v : Int) : imgB exU v = if v = 0 then ⟨3, [⟨1, []⟩]⟩ else if v = 1 then ⟨1, []⟩ else varT v := by
  unfold imgB exU
  rw [findB, findB, findB]
  by_cases h0 : v = 0
  · rw [if_pos h0.symm, if_pos h0]; rfl
  · rw [if_neg (Ne.symm h0), if_neg h0]
    by_cases h1 : v = 1
    · rw [if_pos h1.symm, if_pos h1]; rfl
    · rw [if_neg (Ne.symm h1), if_neg h1]; rfl
theorem ex_uni (τ : Int → Tm) : uni τ [(exX, exY)] ↔ (τ 0).strip = ⟨3, [⟨1, []⟩]⟩ ∧ (τ 1).strip = ⟨1, []⟩ := by
  rw [uni_one]
  have e1 : repT τ exX = ⟨4, [(τ 0).strip, ⟨1, []⟩]⟩ := by simp [exX, repT]
  have e2 : repT τ exY = ⟨4, [⟨3, [(τ 1).strip]⟩, (τ 1).strip]⟩ := by simp [exY, repT]
  rw [e1, e2]
  simp only [Tm.mk.injEq, List.cons.injEq, true_and, and_true]
  constructor
  · rintro ⟨h1, h2⟩
    rw [h1, ← h2]
    exact ⟨rfl, rfl⟩
  · rintro ⟨h1, h2⟩
    rw [h1, h2]
    exact ⟨rfl, rfl⟩
theorem ex_strip : (⟨3, [⟨1, []⟩]⟩ : Tm).strip = ⟨3, [⟨1, []⟩]⟩ ∧ (⟨1, []⟩ : Tm).strip = ⟨1, []⟩ := by
  constructor <;> simp [Tm.strip]
theorem ex_vs : (⟨3, [⟨1, []⟩]⟩ : Tm).vs = [] ∧ (⟨1, []⟩ : Tm).vs = [] := by
  have h : (⟨1, []⟩ : Tm).vs = [] := by rw [Tm.vs_sym (by decide)]; rfl
  refine ⟨?_, h⟩
  rw [Tm.vs_sym (by decide)]
  simp [h]
theorem ex_mgu : Mgu (imgB exU) [(exX, exY)] := by
  refine ⟨?_, fun v hv => ?_, fun v hv u hu => ?_, fun τ ht v hv => ?_, fun v hv hf => ?_⟩
  · rw [ex_uni, ex_img, ex_img, if_pos rfl, if_neg (by decide), if_pos rfl]
    exact ex_strip
  · rw [ex_img]
    split
    · exact ex_strip.1
    · split
      · exact ex_strip.2
      · exact varT_strip v
  · rw [ex_img] at hu
    split at hu
    · rw [ex_vs.1] at hu; cases hu
    · split at hu
      · rw [ex_vs.2] at hu; cases hu
      · rename_i h0 h1
        rw [Tm.vs_var (by rw [varT_f]; omega), varT_f, List.mem_singleton] at hu
        have : u = v := by omega
        rw [this, ex_img, if_neg h0, if_neg h1]
  · obtain ⟨h0, h1⟩ := (ex_uni τ).1 ht
    rw [ex_img]
    split
    · rename_i e
      rw [e, h0, rep_ground ex_vs.1, ex_strip.1]
    · split
      · rename_i e
        rw [e, h1, rep_ground ex_vs.2, ex_strip.2]
      · exact rep_varT hv
  · rw [ex_img] at hf ⊢
    split at hf
    · exact absurd hf (by decide)
    · split at hf
      · exact absurd hf (by decide)
      · rename_i h0 h1
        rw [if_neg h0, if_neg h1, varT_f]; omega
theorem ex_norm : normF exU = exU := by
  refine srt_eqU (normF_srt _) (by simp [exU]) fun v => ?_
  rw [findB_norm]
  have e : findB exU v = if (0 : Int) = v then some ⟨3, [⟨1, []⟩]⟩ else if (1 : Int) = v then some ⟨1, []⟩ else none := by
    unfold exU
    rw [findB, findB, findB]
  rw [e]
  by_cases h0 : (0 : Int) = v
  · rw [if_pos h0]
    show (if idleB ⟨v, ⟨3, [⟨1, []⟩]⟩⟩ then none else some _) = _
    rw [if_neg (by simp [idleB]), ex_strip.1]
  · rw [if_neg h0]
    by_cases h1 : (1 : Int) = v
    · rw [if_pos h1]
      show (if idleB ⟨v, ⟨1, []⟩⟩ then none else some _) = _
      rw [if_neg (by simp [idleB]), ex_strip.2]
    · rw [if_neg h1]
theorem ex_told : ToldU [(exX, exY)] (exU, true) := by
  refine .inr ⟨rfl, exU, ex_mgu, fun b hb => ?_, fun v hv => ?_, ex_norm.symm⟩
  · simp only [exU, List.mem_cons, List.not_mem_nil, or_false] at hb
    rcases hb with rfl | rfl <;> decide
  · rw [ex_img]
    split
    · exact .inr ⟨by simp [Tm.rng], by simp [Tm.size, Tm.flat]⟩
    · split
      · exact .inr ⟨by simp [Tm.rng], by simp [Tm.size, Tm.flat]⟩
      · exact .inl rfl
theorem ex_can : canB ⟨-1, []⟩ ⟨3, [⟨-1, []⟩]⟩ = false := canB_no fun τ h => by
  rw [uni_one] at h
  exact no_self τ ⟨-1, []⟩ (f := 3) (by decide) h
-- 
set_option maxHeartbeats 2000000 in
theorem alive8_abs (W : World) : AFun Try.prog W 7 [] (.val (.b true)) := by
  have hx : exX.rng ∧ exX.ok := ⟨by simp [exX, Tm.rng], by simp [exX, Tm.ok]⟩
  have hy : exY.rng ∧ exY.ok := ⟨by simp [exY, Tm.rng], by simp [exY, Tm.ok]⟩
  have hs : exX.size + exY.size ≤ 1000 := by simp [exX, exY, Tm.size, Tm.flat]
  refine afun_of (rs := [.b true]) Try.func7 Try.ntmps7 rfl rfl rfl rfl ?_
  intro w U hW
  have hu := uUnify_abs w exX exY hx.1 hx.2 hy.1 hy.2 hs (exU, true) ex_told
  have hc := uCan_abs w ⟨-1, []⟩ ⟨3, [⟨-1, []⟩]⟩ (by simp [Tm.rng]) (by simp [Tm.ok]) (by simp [Tm.rng]) (by simp [Tm.ok]) (by simp [Tm.size, Tm.flat])
  rw [ex_can] at hc
  have hex : exX.cw = .row [.i 4, .lst [.row [.i (-1), .lst []], .row [.i 1, .lst []]]] := by simp [exX, Tm.cv_eq]
  have hey : exY.cw = .row [.i 4, .lst [.row [.i 3, .lst [.row [.i (-2), .lst []]]], .row [.i (-2), .lst []]]] := by simp [exY, Tm.cv_eq]
  have heu : exU.map Bd.cv = [.row [.i 0, .row [.i 3, .lst [.row [.i 1, .lst []]]]], .row [.i 1, .row [.i 1, .lst []]]] := by simp [exU, Bd.cv, Bd.cw, Tm.cv_eq]
  have hcw : Tm.cw ⟨3, [⟨-1, []⟩]⟩ = .row [.i 3, .lst [.row [.i (-1), .lst []]]] := by simp [Tm.cv_eq]
  have hcv : Tm.cw ⟨-1, []⟩ = .row [.i (-1), .lst []] := by simp
  rw [hex, hey] at hu
  simp only [heu] at hu
  rw [hcw, hcv] at hc
  refine aS (aR ?_)
  (refine nx (aA (gN rfl) rfl rfl rfl rfl rfl) rfl ?_)
  show AWp _ _ _ _ _ _ _
  refine aS (aR ?_)
  (refine nx (a_buildP (gN rfl) rfl rfl rfl rfl rfl rfl rfl rfl rfl rfl rfl) rfl ?_)
  (refine nx (a_buildP (gN rfl) rfl rfl rfl rfl rfl rfl rfl rfl rfl rfl rfl) rfl ?_)
  (refine nx (a_bslice (gN rfl) rfl rfl rfl rfl rfl rfl rfl rfl rfl rfl rfl rfl rfl) rfl ?_)
  (refine nx (a_build (gN rfl) rfl rfl rfl rfl rfl rfl rfl rfl rfl rfl rfl) rfl ?_)
  (refine nx (a_alloc (gN rfl) rfl rfl rfl rfl rfl rfl rfl rfl rfl rfl) rfl ?_)
  (refine nx (aSt (gN rfl) rfl rfl rfl rfl rfl rfl rfl rfl rfl rfl) rfl ?_)
  show AWp _ _ _ _ _ _ _
  refine aS (aR ?_)
  (refine nx (a_build (gN rfl) rfl rfl rfl rfl rfl rfl rfl rfl rfl rfl rfl) rfl ?_)
  (refine nx (a_bslice (gN rfl) rfl rfl rfl rfl rfl rfl rfl rfl rfl rfl rfl rfl rfl) rfl ?_)
  (refine nx (a_build (gN rfl) rfl rfl rfl rfl rfl rfl rfl rfl rfl rfl rfl) rfl ?_)
  (refine nx (a_build (gN rfl) rfl rfl rfl rfl rfl rfl rfl rfl rfl rfl rfl) rfl ?_)
  (refine nx (a_bslice (gN rfl) rfl rfl rfl rfl rfl rfl rfl rfl rfl rfl rfl rfl rfl) rfl ?_)
  (refine nx (a_build (gN rfl) rfl rfl rfl rfl rfl rfl rfl rfl rfl rfl rfl) rfl ?_)
  (refine nx (a_alloc (gN rfl) rfl rfl rfl rfl rfl rfl rfl rfl rfl rfl) rfl ?_)
  (refine nx (aSt (gN rfl) rfl rfl rfl rfl rfl rfl rfl rfl rfl rfl) rfl ?_)
  show AWp _ _ _ _ _ _ _
  refine aS (aR ?_)
  (refine nx (aL (gN rfl) rfl rfl rfl rfl rfl rfl rfl rfl rfl rfl rfl rfl) rfl ?_)
  (refine nx (aL (gN rfl) rfl rfl rfl rfl rfl rfl rfl rfl rfl rfl rfl rfl) rfl ?_)
  (refine nx (a_call (gN rfl) rfl rfl rfl rfl rfl (hu)) rfl ?_)
  (refine nx (aM (gN rfl) rfl rfl rfl rfl rfl) rfl ?_)
  (refine nx (aX (gN rfl) rfl rfl rfl rfl rfl rfl) rfl ?_)
  (refine nx (aX (gN rfl) rfl rfl rfl rfl rfl rfl) rfl ?_)
  (refine nx (aA (gN rfl) rfl rfl rfl rfl rfl) rfl ?_)
  (refine nx (aA (gN rfl) rfl rfl rfl rfl rfl) rfl ?_)
  show AWp _ _ _ _ _ _ _
  refine aS (aR ?_)
  (refine nx (aM (gN rfl) rfl rfl rfl rfl rfl) rfl ?_)
  (refine nx (aM (gN rfl) rfl rfl rfl rfl rfl) rfl ?_)
  (refine nx (aM (gd_on rfl rfl rfl rfl (by first | rfl | assumption | (simp; done))) rfl rfl rfl rfl rfl) rfl ?_)
  (refine nx (a_len (gd_on rfl rfl rfl rfl (by first | rfl | assumption | (simp; done))) rfl rfl rfl rfl rfl rfl rfl) rfl ?_)
  (refine nx (a_eql (gd_on rfl rfl rfl rfl (by first | rfl | assumption | (simp; done))) rfl rfl rfl rfl rfl rfl) rfl ?_)
  (refine ⟨_, _, _, aPt (gN rfl) rfl rfl rfl rfl rfl ?hb rfl, rfl, ?_⟩; case hb => (first | rfl | assumption | (simp; done)))
  (refine nx (aM (gN rfl) rfl rfl rfl rfl rfl) rfl ?_)
  (refine nx (aM (gd_on rfl rfl rfl rfl (by first | rfl | assumption | (simp; done))) rfl rfl rfl rfl rfl) rfl ?_)
  (refine nx (a_index (j := 0) (gd_on rfl rfl rfl rfl (by first | rfl | assumption | (simp; done))) rfl rfl rfl rfl rfl rfl rfl rfl rfl (rfl) rfl (sZ rfl)) rfl ?_)
  (refine nx (a_field_ad (gd_on rfl rfl rfl rfl (by first | rfl | assumption | (simp; done))) rfl rfl rfl rfl rfl rfl rfl rfl rfl rfl rfl) rfl ?_)
  (refine nx (a_load_ad (gd_on rfl rfl rfl rfl (by first | rfl | assumption | (simp; done))) rfl rfl rfl rfl rfl rfl rfl rfl rfl) rfl ?_)
  (refine nx (a_eql (gd_on rfl rfl rfl rfl (by first | rfl | assumption | (simp; done))) rfl rfl rfl rfl rfl rfl) rfl ?_)
  (refine ⟨_, _, _, aPt (gN rfl) rfl rfl rfl rfl rfl ?hb rfl, rfl, ?_⟩; case hb => (first | rfl | assumption | (simp; done)))
  (refine nx (aM (gN rfl) rfl rfl rfl rfl rfl) rfl ?_)
  (refine nx (aM (gd_on rfl rfl rfl rfl (by first | rfl | assumption | (simp; done))) rfl rfl rfl rfl rfl) rfl ?_)
  (refine nx (a_index (j := 0) (gd_on rfl rfl rfl rfl (by first | rfl | assumption | (simp; done))) rfl rfl rfl rfl rfl rfl rfl rfl rfl (rfl) rfl (sZ rfl)) rfl ?_)
  (refine nx (a_field_ad (gd_on rfl rfl rfl rfl (by first | rfl | assumption | (simp; done))) rfl rfl rfl rfl rfl rfl rfl rfl rfl rfl rfl) rfl ?_)
  (refine nx (a_field_ad (gd_on rfl rfl rfl rfl (by first | rfl | assumption | (simp; done))) rfl rfl rfl rfl rfl rfl rfl rfl rfl rfl rfl) rfl ?_)
  (refine nx (a_load_ad (gd_on rfl rfl rfl rfl (by first | rfl | assumption | (simp; done))) rfl rfl rfl rfl rfl rfl rfl rfl rfl) rfl ?_)
  (refine nx (a_eql (gd_on rfl rfl rfl rfl (by first | rfl | assumption | (simp; done))) rfl rfl rfl rfl rfl rfl) rfl ?_)
  (refine ⟨_, _, _, aPt (gN rfl) rfl rfl rfl rfl rfl ?hb rfl, rfl, ?_⟩; case hb => (first | rfl | assumption | (simp; done)))
  (refine nx (aM (gN rfl) rfl rfl rfl rfl rfl) rfl ?_)
  (refine nx (aM (gd_on rfl rfl rfl rfl (by first | rfl | assumption | (simp; done))) rfl rfl rfl rfl rfl) rfl ?_)
  (refine nx (a_index (j := 0) (gd_on rfl rfl rfl rfl (by first | rfl | assumption | (simp; done))) rfl rfl rfl rfl rfl rfl rfl rfl rfl (rfl) rfl (sZ rfl)) rfl ?_)
  (refine nx (a_field_ad (gd_on rfl rfl rfl rfl (by first | rfl | assumption | (simp; done))) rfl rfl rfl rfl rfl rfl rfl rfl rfl rfl rfl) rfl ?_)
  (refine nx (a_field_ad (gd_on rfl rfl rfl rfl (by first | rfl | assumption | (simp; done))) rfl rfl rfl rfl rfl rfl rfl rfl rfl rfl rfl) rfl ?_)
  (refine nx (a_load_ad (gd_on rfl rfl rfl rfl (by first | rfl | assumption | (simp; done))) rfl rfl rfl rfl rfl rfl rfl rfl rfl) rfl ?_)
  (refine nx (a_index (j := 0) (gd_on rfl rfl rfl rfl (by first | rfl | assumption | (simp; done))) rfl rfl rfl rfl rfl rfl rfl rfl rfl (rfl) rfl (sZ rfl)) rfl ?_)
  (refine nx (a_field_ad (gd_on rfl rfl rfl rfl (by first | rfl | assumption | (simp; done))) rfl rfl rfl rfl rfl rfl rfl rfl rfl rfl rfl) rfl ?_)
  (refine nx (a_load_ad (gd_on rfl rfl rfl rfl (by first | rfl | assumption | (simp; done))) rfl rfl rfl rfl rfl rfl rfl rfl rfl) rfl ?_)
  (refine nx (a_eql (gd_on rfl rfl rfl rfl (by first | rfl | assumption | (simp; done))) rfl rfl rfl rfl rfl rfl) rfl ?_)
  (refine ⟨_, _, _, aPt (gN rfl) rfl rfl rfl rfl rfl ?hb rfl, rfl, ?_⟩; case hb => (first | rfl | assumption | (simp; done)))
  (refine nx (aM (gN rfl) rfl rfl rfl rfl rfl) rfl ?_)
  (refine nx (aM (gd_on rfl rfl rfl rfl (by first | rfl | assumption | (simp; done))) rfl rfl rfl rfl rfl) rfl ?_)
  (refine nx (a_index (j := 1) (gd_on rfl rfl rfl rfl (by first | rfl | assumption | (simp; done))) rfl rfl rfl rfl rfl rfl rfl rfl rfl (rfl) rfl (sZ rfl)) rfl ?_)
  (refine nx (a_field_ad (gd_on rfl rfl rfl rfl (by first | rfl | assumption | (simp; done))) rfl rfl rfl rfl rfl rfl rfl rfl rfl rfl rfl) rfl ?_)
  (refine nx (a_field_ad (gd_on rfl rfl rfl rfl (by first | rfl | assumption | (simp; done))) rfl rfl rfl rfl rfl rfl rfl rfl rfl rfl rfl) rfl ?_)
  (refine nx (a_load_ad (gd_on rfl rfl rfl rfl (by first | rfl | assumption | (simp; done))) rfl rfl rfl rfl rfl rfl rfl rfl rfl) rfl ?_)
  (refine nx (a_eql (gd_on rfl rfl rfl rfl (by first | rfl | assumption | (simp; done))) rfl rfl rfl rfl rfl rfl) rfl ?_)
  (refine ⟨_, _, _, aPt (gN rfl) rfl rfl rfl rfl rfl ?hb rfl, rfl, ?_⟩; case hb => (first | rfl | assumption | (simp; done)))
  (refine nx (aM (gN rfl) rfl rfl rfl rfl rfl) rfl ?_)
  (refine nx (a_build (gd_on rfl rfl rfl rfl (by first | rfl | assumption | (simp; done))) rfl rfl rfl rfl rfl rfl rfl rfl rfl rfl rfl) rfl ?_)
  (refine nx (a_build (gd_on rfl rfl rfl rfl (by first | rfl | assumption | (simp; done))) rfl rfl rfl rfl rfl rfl rfl rfl rfl rfl rfl) rfl ?_)
  (refine nx (a_bslice (gd_on rfl rfl rfl rfl (by first | rfl | assumption | (simp; done))) rfl rfl rfl rfl rfl rfl rfl rfl rfl rfl rfl rfl rfl) rfl ?_)
  (refine nx (a_build (gd_on rfl rfl rfl rfl (by first | rfl | assumption | (simp; done))) rfl rfl rfl rfl rfl rfl rfl rfl rfl rfl rfl) rfl ?_)
  (refine nx (a_call (gd_on rfl rfl rfl rfl (by first | rfl | assumption | (simp; done))) rfl rfl rfl rfl rfl (hc)) rfl ?_)
  (refine nx (a_not (gd_on rfl rfl rfl rfl (by first | rfl | assumption | (simp; done))) rfl rfl rfl rfl rfl) rfl ?_)
  (refine ⟨_, _, _, aPt (gN rfl) rfl rfl rfl rfl rfl ?hb rfl, rfl, ?_⟩; case hb => (first | rfl | assumption | (simp; done)))
  (refine nx (aA (gN rfl) rfl rfl rfl rfl rfl) rfl ?_)
  show AWp _ _ _ _ _ _ _
  exact aT (And.intro (.inr rfl) rfl)
theorem avreps_val {U : Nat → Nat → Prop} {w : World} {hv : Nat → Value} {lv : Nat → Prop} : ∀ {l : List CV} {vs : List Value}, AVReps U w hv lv (l.map AV.val) vs → VReps U w l vs
  | [], _, h => h
  | c :: l, vs, ⟨u, us, e, h1, h2⟩ => ⟨u, us, e, h1.1, avreps_val h2⟩
theorem afunO_row {P : Program} {f : FuncId} {args : List CV} {e z : Nat} {l : List CV} (hent : EntF P f) (hz : 0 < z) (hl : ∀ c ∈ l, c.size = z) (nm : Nat) (h3 : 300000 ≤ nm) (h4 : nm < 400000)
    (H : ∀ (U : Nat → Nat → Prop) (w : World) (vs : List Value), VReps U w args vs → Calls P f vs.toArray w fun x w' => ∃ v xs, x = .returned v ∧ w'.ownsRow w.heap.size e z v l.length xs ∧ (∀ V, Sq (l.map fun c => Rep V w' c) xs) ∧ Below w.heap.size w w') :
    AFunO P f [] (args.map AV.val) (.sl nm 0 l.length z) [(nm, .mrow e z l)] := by
  refine ⟨hent, fun U w hv a0 vs hU hpS hargs => ?_⟩
  refine (H _ w vs (avreps_val hargs)).mono ?_
  rintro x w' ⟨v, xs, rfl, ho, hsq, hB⟩
  have lk : ∀ {k : Nat} {av : AV}, look [(nm, AV.mrow e z l)] k = some av → k = nm ∧ av = .mrow e z l := fun {k av} h => by
    rw [look_cons] at h
    split at h
    · rename_i e1; cases h; exact ⟨e1.symm, rfl⟩
    · cases h
  obtain ⟨hv', hhv⟩ : ∃ hv' : Nat → Value, hv' = fun _ => v := ⟨_, rfl⟩
  have hv1 : ∀ k, hv' k = v := fun k => by rw [hhv]
  have ho0 := ownsRow_mono ho (Nat.zero_le _)
  refine ⟨v, fun _ _ => False, hv', ⟨#[], []⟩, rfl, ⟨⟨hB.os, hB.tape, hB.output, hB.size, fun k hk _ => hB.block k hk⟩, rfl, rfl, fun d av g1 g2 => ?_, fun m o av g1 g2 g3 g4 => ?_, fun m o o' av av' g1 g2 g3 g4 g5 => ?_, fun k av g1 g2 => ?_, fun k av g g1 g2 g3 g4 => ?_, fun k k' av av' g g1 g2 g3 g4 g5 g6 g7 g8 g9 => ?_, fun k u hk => ?_, fun b o hd => hd.elim⟩, ?_⟩
  · obtain ⟨e1, _⟩ := lk g1; omega
  · obtain ⟨_, e2⟩ := lk g3; cases e2
  · obtain ⟨e1, _⟩ := lk g1; unfold fKey at e1; omega
  · obtain ⟨_, rfl⟩ := lk g1
    rw [hv1]
    exact ⟨xs, ho0, hz, hl, hsq _⟩
  · obtain ⟨_, rfl⟩ := lk g1
    rw [hv1] at g4
    rcases ho.2 with ⟨h1, _⟩ | ⟨g', cap, cur, h1, h2, h5, _⟩
    · rw [h1] at g4; cases g4
    · rw [h1] at g4
      have e9 : g' = g := Option.some.inj g4
      subst e9
      refine ⟨.inl h2, ?_, fun o _ h => h⟩
      rcases Nat.lt_or_ge g' w'.heap.size with h | h
      · exact h
      · rw [Array.getElem?_eq_none h] at h5; cases h5
  · obtain ⟨e1, _⟩ := lk g1
    obtain ⟨e2, _⟩ := lk g2
    exact absurd (e1.trans e2.symm) g7
  · have := hU k u hk; cases this
  · obtain ⟨ao, cap, k1, k2, k3⟩ := own_addr (w := w') ho0
    refine ⟨⟨by show 200000 ≤ nm; omega, by show nm < 450000; omega⟩, ?_⟩
    show SlV (hv' nm) 0 l.length z v
    rw [hv1]
    exact slV_all k1 k2 k3
theorem varsO_abs (nm : Nat) (h3 : 300000 ≤ nm) (h4 : nm < 400000) {t : Tm} (ht : t.rng) (hm : t.size ≤ 90000000000) : AFunO Try.prog 19 [] [.val t.cw] (.sl nm 0 (varsF t.flat).length 1) [(nm, .mrow 3 1 ((varsF t.flat).map CV.i))] := by
  have := afunO_row (P := Try.prog) (f := 19) (args := [t.cw]) (e := 3) (z := 1) (l := (varsF t.flat).map CV.i) (ent_of Try.func19 rfl rfl) (by decide) (ints_size _) nm h3 h4 (by
    rintro U w vs ⟨u1, us1, rfl, h1, h2⟩
    have h2 : us1 = [] := h2
    subst h2
    obtain ⟨a, n, c, rfl, h5⟩ := tat_of_vrep ht h1
    refine Calls.mono (callsIn_wide.1 (vars_in t a n c w h5 hm)) ?_
    rintro e W' ⟨v, rfl, ho, hb⟩
    exact ⟨v, _, rfl, by rw [List.length_map]; exact ho, fun V => sq_ints _, hb⟩)
  rw [List.length_map] at this
  exact this
theorem nodup_sub_len : ∀ {l m : List Int}, l.Nodup → (∀ x ∈ l, x ∈ m) → l.length ≤ m.length
  | [], _, _, _ => Nat.zero_le _
  | a :: l, m, hn, hs => by
    obtain ⟨h1, h2⟩ := List.nodup_cons.1 hn
    have ha := hs a (by simp)
    have := nodup_sub_len (l := l) (m := m.erase a) h2 fun x hx => (List.mem_erase_of_ne (a := x) (b := a) (fun e => h1 (by rw [← e]; exact hx))).2 (hs x (List.mem_cons_of_mem _ hx))
    rw [List.length_erase_of_mem ha] at this
    have := List.length_pos_of_mem ha
    rw [List.length_cons]
    omega
theorem tiny2_of {a b : Tm} (ha : 0 ≤ smallT a 16 8) (hb : 0 ≤ smallT b 16 8) : Tiny2 [(a, b)] := fun p hp => by
  rw [List.mem_singleton] at hp
  rw [hp]
  exact ⟨(tiny_facts ha).2, (tiny_facts hb).2⟩
theorem tinyB_two {a b : Tm} (h : tinyB [a, b] = true) : 0 ≤ smallT a 16 8 ∧ 0 ≤ smallT b 16 8 := by
  have h1 := List.all_eq_true.1 h
  exact ⟨of_decide_eq_true (h1 a (by simp)), of_decide_eq_true (h1 b (by simp))⟩
theorem vars8_len (t : Tm) : (varsF t.flat).length ≤ t.size := by
  rw [nv_vars]
  exact Nat.le_trans (nubL8 t.vs) (vsL8 t)
theorem rep_rng {s : List Bd} (hs : bdsOk s) {t : Tm} (h : t.rng) : (repT (imgB s) t).rng := repT_rng h fun v h1 h2 => (imgB_ok hs h1 h2).1
theorem vp_pos {l : List (Tm × Tm)} {u : Int} (h : u ∈ varsP l) : 0 ≤ u := by
  obtain ⟨p, hp, h⟩ := List.mem_flatMap.1 h
  rcases List.mem_append.1 h with h | h <;> exact vs_nonneg _ u h
end Go.Proofs.Ytiammidklcjelab
namespace Go.Proofs.Ytiammidklcjelab
open Go.RowKit Go.MapKept
set_option linter.unusedVariables false
set_option linter.unusedSimpArgs false
set_option maxRecDepth 100000
section
variable {P : Program} {w0 : World} {U0 : UX} {nt : Nat} {ops : Array Oper} {o : Oper} {S : Nat → Option AV} {gs : List Nat} {d : Nat} {s : AS} {a : Act} {w : World} {D : Nat → Nat → Prop} {hv : Nat → Value}

theorem a_mkmapN (nn : Nat) (hg : Gd w0 U0 nt ops o gs S) (hd : o.dst = some d) (hn : Nat.blt d nt = true) (h5 : Nat.blt d 100000 = true) {t kt et : TypeId} {x : Operand} {i : Int} {n' q' p'} (ho : o.op = .makeMap t (some x)) (hu : P.underlying t = some (.map kt et)) (hx : ev S x = some ⟨0, .i i, n', q', p'⟩) (hn2 : (Nat.ble 200000 nn && Nat.blt nn 400000) = true) : AOp P w0 U0 nt ops o (gs ++ rd x) [(nn, [])] S [(d, .mref nn), (nn, .mp [])] := by
  intro s hs hN a w ⟨D, hv, h⟩ Q K hK
  rw [if_pos (hg s (fun k hk => hs k (List.mem_append_left _ hk)) a w D hv h)]
  have hrn := rnB hn2
  have e1 := ev_sc h (fun k hk => hs k (List.mem_append_right _ hk)) hx
  have he : (execOp a.eval o).run P w = .ok (.value (.map (some w.heap.size))) (w.alloc (.map #[] 0)) := by
    generalize a.eval = ρ at e1 ⊢
    simp [execOp, ho, Instr.makeMap, e1, run_underlying hu, asInt, asIntOf, run_newObj_alloc]
  unfold Oper.wp
  rw [he, Oper.upon_value, hd]
  have hb' : Below w.heap.size w (w.alloc (.map #[] 0)) := (Below.refl _ _).alloc (Nat.le_refl _) _
  have hG := h.newrow (X := fun _ => False) (avn := .mp []) (v' := .map (some w.heap.size)) (D' := D) hrn (hN (nn, []) (by simp)).nr (by simp) ((BelowX.refl _ w).step hb') (fun b hb => hb.elim) (fun g hg => by
      have hg : some w.heap.size = some g := hg
      cases hg
      refine ⟨.inr (Nat.le_refl _), by simp, fun o _ hd => ?_⟩
      have := h.dlt _ _ hd
      omega) (fun b o hd => .inl hd) (fun b o hd => Nat.lt_of_lt_of_le (h.dlt _ _ hd) hb'.size) (us_keep h.dlt hb' fun _ _ h => h) (fun hv lv => ⟨w.heap.size, #[], 0, rfl, alloc_new _ _, rfl, by simp, by simp⟩)
  refine hK _ _ ⟨_, _, hG.put (bL hn) (bL h5) ⟨RW.rn hrn, ?_, rfl⟩⟩
  simp
theorem vrep_zT {U : Nat → Nat → Prop} {w : World} {v : Value} {et : TypeId} (hz2 : (P.info? et).map (·.zero) = some (some (.agg #[.int .i64 0, .slice none 0 0]))) (hr : Rep U w (.row [.i 0, .lst []]) v.cells.toList) (hh : ∃ it, P.info? et = some it ∧ it.zero = some v) : VRep U w (.row [.i 0, .lst []]) v := by
  obtain ⟨it, h1, h2⟩ := hh
  rw [h1, Option.map_some, h2] at hz2
  injection hz2 with hz2
  injection hz2 with hz2
  subst hz2
  exact ⟨_, rfl, hr⟩
theorem a_lookupT (hg : Gd w0 U0 nt ops o gs S) (hd : o.dst = some d) (hn : Nat.blt d nt = true) (h5 : Nat.blt d 100000 = true) {x y : Operand} {t kt et : TypeId} {k : IntKind} {i : Int} {n : Nat} {l : List CV} {n' q' p'} (ho : o.op = .lookup t x y true) (hu : P.underlying t = some (.map kt et)) (huk : P.underlying kt = some (.int k)) (hz2 : (P.info? et).map (·.zero) = some (some (.agg #[.int .i64 0, .slice none 0 0]))) (hzc : zeroT P et = some (.row [.i 0, .lst []])) (hx : ev S x = some (.mref n)) (hy : ev S y = some ⟨0, .sc (.int k i), n', q', p'⟩) (hm' : S n = some (.mp l)) (hik : IntKeys k l) : AOp P w0 U0 nt ops o (gs ++ (rd x ++ (rd y ++ [n]))) [] S [(d, .tup [(lookR k i l).getD (.row [.i 0, .lst []]), .b (lookR k i l).isSome])] :=
  a_lookup hg hd hn h5 ho hu huk hzc hx hy hm' hik fun U w v hr hh => vrep_zT hz2 hr hh
theorem a_lookupS (hg : Gd w0 U0 nt ops o gs S) (hd : o.dst = some d) (hn : Nat.blt d nt = true) (h5 : Nat.blt d 100000 = true) {x y : Operand} {t kt et : TypeId} {k : IntKind} {i : Int} {n b0 ck0 : Nat} {bs0 : List Nat} {l : List CV} {n' q' p'} (ho : o.op = .lookup t x y true) (hu : P.underlying t = some (.map kt et)) (huk : P.underlying kt = some (.int k)) (hz2 : (P.info? et).map (·.zero) = some (some (.agg #[.int .i64 0, .slice none 0 0]))) (hzc : zeroT P et = some (.row [.i 0, .lst []])) (hx : ev S x = some (.mref n)) (hy : ev S y = some ⟨0, .sc (.int k i), n', q', p'⟩) (hm' : S n = some (.stm l b0 ck0 bs0)) (hik : IntKeys k l) : AOp P w0 U0 nt ops o (gs ++ (rd x ++ (rd y ++ [n]))) [] S [(d, .tup [(lookR k i l).getD (.row [.i 0, .lst []]), .b (lookR k i l).isSome])] :=
  aop_val hg hd hn h5 (fun k hk => List.mem_append_left _ hk) fun s hs a w D hv hm => by
    obtain ⟨hrn, h1, _⟩ : RN n ∧ a.eval x = hv n ∧ (a.eval x).oneCell' = true := ev_rep hm (fun k hk => hs k (List.mem_append_right _ (List.mem_append_left _ hk))) hx
    have e2 := ev_sc hm (fun k hk => hs k (List.mem_append_right _ (List.mem_append_right _ (List.mem_append_left _ hk)))) hy
    have hok : oKey n := by unfold RN at hrn; unfold oKey; omega
    have hox : OX (Us w0 U0 D) w (.stm l b0 ck0 bs0) (hv n) := hm.obj n _ ((hs n (by simp)).trans hm') hok
    obtain ⟨g, clock, es, g1, _, g2, g3, g4, g5⟩ := hox.2.2.2 rfl
    obtain ⟨it, zv, i1, i2, i3⟩ := zeroT_spec hzc
    have hck := run_checkKey (P := P) (w := w) huk (k := .int k i) rfl es.isEmpty 9999
    have hge := Go.MapKept.run_getObj_map (P := P) g2
    rcases find_spec 0 g3 hik (i := i) with ⟨f1, f2⟩ | ⟨j, e, c, f1, f2, f3, f4, f5, f6⟩
    · have hfk := run_findKey (P := P) (w := w) huk f1
      have hzv : (zeroValue et).run P w = .ok zv w := by simp [zeroValue, typeInfo, i1, i2]
      refine ⟨.tuple #[zv, .bool false], ?_, ?_⟩
      · rw [g1] at h1
        generalize a.eval = ρ at h1 e2 ⊢
        simp [execOp, ho, Instr.lookup, run_underlying hu, h1, e2, hge, hck, hfk, hzv]
      · rw [show lookR k i l = none from f2]
        exact ⟨[zv, .bool false], rfl, zv, [.bool false], rfl, vrep_zT hz2 (i3 _ _) ⟨it, i1, i2⟩, .bool false, [], rfl, vrep_sc.2 ⟨rfl, rfl⟩, rfl⟩
    · have hfk := run_findKey (P := P) (w := w) huk f1
      refine ⟨.tuple #[e.val, .bool true], ?_, ?_⟩
      · rw [g1] at h1
        generalize a.eval = ρ at h1 e2 ⊢
        simp [execOp, ho, Instr.lookup, run_underlying hu, h1, e2, hge, hck, hfk]
      · rw [show lookR k i l = some c from f6]
        exact ⟨[e.val, .bool true], rfl, e.val, [.bool true], rfl, f4, .bool true, [], rfl, vrep_sc.2 ⟨rfl, rfl⟩, rfl⟩
theorem a_lookupTn (hg : Gd w0 U0 nt ops o gs S) (hd : o.dst = some d) (hn : Nat.blt d nt = true) (h5 : Nat.blt d 100000 = true) {x y : Operand} {t kt et : TypeId} {k : IntKind} {i : Int} {n : Nat} {l : List CV} {n' q' p'} (ho : o.op = .lookup t x y true) (hu : P.underlying t = some (.map kt et)) (huk : P.underlying kt = some (.int k)) (hz2 : (P.info? et).map (·.zero) = some (some (.agg #[.int .i64 0, .slice none 0 0]))) (hzc : zeroT P et = some (.row [.i 0, .lst []])) (hx : ev S x = some (.mref n)) (hy : ev S y = some ⟨0, .sc (.int k i), n', q', p'⟩) (hm' : S n = some (.mp l)) (hik : IntKeys k l) (hno : lookR k i l = none) : AOp P w0 U0 nt ops o (gs ++ (rd x ++ (rd y ++ [n]))) [] S [(d, .tup [.row [.i 0, .lst []], .b false])] := by
  have := a_lookupT hg hd hn h5 ho hu huk hz2 hzc hx hy hm' hik
  rw [hno] at this
  exact this
theorem a_lookupSn (hg : Gd w0 U0 nt ops o gs S) (hd : o.dst = some d) (hn : Nat.blt d nt = true) (h5 : Nat.blt d 100000 = true) {x y : Operand} {t kt et : TypeId} {k : IntKind} {i : Int} {n b0 ck0 : Nat} {bs0 : List Nat} {l : List CV} {n' q' p'} (ho : o.op = .lookup t x y true) (hu : P.underlying t = some (.map kt et)) (huk : P.underlying kt = some (.int k)) (hz2 : (P.info? et).map (·.zero) = some (some (.agg #[.int .i64 0, .slice none 0 0]))) (hzc : zeroT P et = some (.row [.i 0, .lst []])) (hx : ev S x = some (.mref n)) (hy : ev S y = some ⟨0, .sc (.int k i), n', q', p'⟩) (hm' : S n = some (.stm l b0 ck0 bs0)) (hik : IntKeys k l) (hno : lookR k i l = none) : AOp P w0 U0 nt ops o (gs ++ (rd x ++ (rd y ++ [n]))) [] S [(d, .tup [.row [.i 0, .lst []], .b false])] := by
  have := a_lookupS hg hd hn h5 ho hu huk hz2 hzc hx hy hm' hik
  rw [hno] at this
  exact this
end
end Go.Proofs.Ytiammidklcjelab
namespace Go.Proofs.Ytiammidklcjelab
open Go.RowKit
set_option linter.unusedVariables false
set_option linter.unusedSimpArgs false
set_option maxRecDepth 100000
noncomputable abbrev mrB (b : Bd) : CV := .row [.i b.v, b.t.cw]
theorem mr_keys (L : List Bd) : IntKeys .i64 (L.map mrB) := fun r hr => by
  obtain ⟨b, _, rfl⟩ := List.mem_map.1 hr
  exact ⟨b.v, b.t.cw, rfl⟩
theorem look_mr : ∀ (L : List Bd) (v : Int), v ∉ L.map Bd.v → lookR .i64 v (L.map mrB) = none
  | [], _, _ => rfl
  | b :: L, v, h => by
    rw [List.map_cons, lookR_row, if_neg (fun e => h (by rw [List.map_cons, ← e]; simp))]
    exact look_mr L v fun hm => h (by rw [List.map_cons]; exact List.mem_cons_of_mem _ hm)
theorem put_mr : ∀ (L : List Bd) (v : Int) (c : CV), v ∉ L.map Bd.v → putR .i64 v c (L.map mrB) = L.map mrB ++ [.row [.i v, c]]
  | [], _, _, _ => rfl
  | b :: L, v, c, h => by
    have hne : ¬ b.v = v := fun e => h (by rw [List.map_cons, ← e]; simp)
    have ih := put_mr L v c fun hm => h (by rw [List.map_cons]; exact List.mem_cons_of_mem _ hm)
    show (if (IntKind.i64 = IntKind.i64 ∧ b.v = v) then _ else mrB b :: putR .i64 v c (L.map mrB)) = _
    rw [if_neg (fun h => hne h.2), ih]
    rfl
-- 
set_option maxHeartbeats 4000000 in
theorem uSolved_abs (W : World) (L : List Bd) (hl : L.length ≤ 100000) (hb : bdsOk L) (hd : (L.map Bd.v).Nodup) (hs : ∀ b ∈ L, ∀ u ∈ b.t.vs, u ∉ L.map Bd.v) : AFun Try.prog W 14 [.lst (L.map Bd.cv)] (.val (.b true)) := by
  have hsz := Bd.size_all L
  refine afun_of (rs := [.b true]) Try.func14 Try.ntmps14 rfl rfl rfl rfl ?_
  intro w U hW
  refine aS (aR ?_)
  (refine nx (aA (gN rfl) rfl rfl rfl rfl rfl) rfl ?_)
  show AWp _ _ _ _ _ _ _
  refine aS (aR ?_)
  (refine nx (aM (gN rfl) rfl rfl rfl rfl rfl) rfl ?_)
  (refine nx (a_len (gN rfl) rfl rfl rfl rfl rfl rfl rfl) rfl ?_)
  (refine nx (a_mkmapN 300016 (gN rfl) rfl rfl rfl rfl rfl rfl rfl) rfl ?_)
  (refine nx (aA (gN rfl) rfl rfl rfl rfl rfl) rfl ?_)
  show AWp _ _ _ _ _ _ _
  refine aS (aS (aR ?_))
  (refine nx (aM (gN rfl) rfl rfl rfl rfl rfl) rfl ?_)
  (refine nx (a_len (gN rfl) rfl rfl rfl rfl rfl rfl rfl) rfl ?_)
  (refine nx (aM (gN rfl) rfl rfl rfl rfl rfl) rfl ?_)
  show AWp _ _ _ _ _ _ _
  refine aB (awp_count L.length (fun k => [(3, .mref 300016), (17, .val (.lst (L.map Bd.cv))), (18, .val (.i (L.map Bd.cv).length)), (19, .val (.i k)), (300016, .mp ((L.take k).map mrB))]) (wk_sub ⟨rfl, rfl, rfl, rfl, rfl, trivial⟩) ?_)
  intro k hk
  refine aS (aR ?_)
  (refine nx (a_lss (gN rfl) rfl rfl rfl rfl rfl rfl) rfl ?_)
  show AWp _ _ _ _ _ _ _
  refine aS (aC rfl (fun hlt => ?_) (fun hlt => ?_))
  · have hkl : k < L.length := by simpa using hlt
    obtain ⟨b, hx⟩ : ∃ x, L[k]? = some x := ⟨L[k], List.getElem?_eq_getElem hkl⟩
    have hx' := Bd.map_at hx
    have htk : L.take (k + 1) = L.take k ++ [b] := by rw [List.take_add_one, hx]; rfl
    have hnot : b.v ∉ (L.take k).map Bd.v := fun hm => by
      have h1 : ((L.take k ++ [b]).map Bd.v).Nodup := by
        rw [← htk]
        exact hd.sublist ((List.take_sublist _ _).map _)
      rw [List.map_append, List.nodup_append] at h1
      exact h1.2.2 b.v hm b.v (by simp) rfl
    have hno := look_mr _ _ hnot
    have hput := put_mr (L.take k) b.v b.t.cw hnot
    refine aK ?_
    show AWp _ _ _ _ _ _ _
    refine aS (aB (aS (aR ?_)))
    (refine nx (a_index (j := k) (gN rfl) rfl rfl rfl rfl rfl rfl rfl rfl rfl (hx') rfl (hsz)) rfl ?_)
    (refine nx (a_load_ad (gN rfl) rfl rfl rfl rfl rfl rfl rfl rfl rfl) rfl ?_)
    (refine nx (a_alloc (gN rfl) rfl rfl rfl rfl rfl rfl rfl rfl rfl rfl) rfl ?_)
    (refine nx (aSt (gN rfl) rfl rfl rfl rfl rfl rfl rfl rfl rfl rfl) rfl ?_)
    show AWp _ _ _ _ _ _ _
    refine aS (aR ?_)
    (refine nx (aM (gN rfl) rfl rfl rfl rfl rfl) rfl ?_)
    (refine nx (aF (gN rfl) rfl rfl rfl rfl rfl rfl rfl rfl rfl) rfl ?_)
    (refine nx (aLb (gN rfl) rfl rfl rfl rfl rfl rfl rfl rfl rfl rfl rfl rfl) rfl ?_)
    (refine nx (a_lookupTn (gN rfl) rfl rfl rfl rfl rfl rfl rfl rfl rfl rfl rfl (mr_keys _) (hno)) rfl ?_)
    (refine nx (aM (gN rfl) rfl rfl rfl rfl rfl) rfl ?_)
    (refine nx (aX (gN rfl) rfl rfl rfl rfl rfl rfl) rfl ?_)
    (refine nx (aX (gN rfl) rfl rfl rfl rfl rfl rfl) rfl ?_)
    (refine nx (a_alloc (gN rfl) rfl rfl rfl rfl rfl rfl rfl rfl rfl rfl) rfl ?_)
    (refine nx (aSt (gN rfl) rfl rfl rfl rfl rfl rfl rfl rfl rfl rfl) rfl ?_)
    (refine nx (aA (gN rfl) rfl rfl rfl rfl rfl) rfl ?_)
    show AWp _ _ _ _ _ _ _
    refine aS (aR ?_)
    (refine nx (aM (gN rfl) rfl rfl rfl rfl rfl) rfl ?_)
    (refine nx (a_not (gN rfl) rfl rfl rfl rfl rfl) rfl ?_)
    show AWp _ _ _ _ _ _ _
    refine aC rfl (fun hc => ?_) (fun hc => by cases hc)
    refine aR ?_
    (refine nx (aM (gN rfl) rfl rfl rfl rfl rfl) rfl ?_)
    (refine nx (aF (gN rfl) rfl rfl rfl rfl rfl rfl rfl rfl rfl) rfl ?_)
    (refine nx (aLb (gN rfl) rfl rfl rfl rfl rfl rfl rfl rfl rfl rfl rfl rfl) rfl ?_)
    (refine nx (aF (gN rfl) rfl rfl rfl rfl rfl rfl rfl rfl rfl) rfl ?_)
    (refine nx (aLb (gN rfl) rfl rfl rfl rfl rfl rfl rfl rfl rfl rfl rfl rfl) rfl ?_)
    (refine nx (a_mapup (gN rfl) rfl rfl rfl rfl rfl rfl rfl rfl (mr_keys _)) rfl ?_)
    show AWp _ _ _ _ _ _ _
    refine aR ?_
    (refine nx (a_add (gN rfl) rfl rfl rfl rfl rfl rfl (by first | omega | (simp only [List.length_map, List.length_append, List.length_cons, List.length_nil] <;> omega) | (simp <;> omega))) rfl ?_)
    (refine nx (aM (gN rfl) rfl rfl rfl rfl rfl) rfl ?_)
    refine ⟨hkl, wk_sub ⟨rfl, rfl, rfl, rfl, ?_, trivial⟩⟩
    show some (AV.mp (putR .i64 b.v b.t.cw ((L.take k).map mrB))) = _
    rw [hput, htk, List.map_append]
    rfl
  have hkl : k = L.length := by
    have : ¬ k < L.length := by simpa using hlt
    omega
  subst hkl
  rw [List.take_length]
  refine aE ?_
  show AWp _ _ _ _ _ _ _
  have hlv : (L.map mrB).length = L.length := List.length_map ..
  refine AWp.wk (wk_sub (s' := [(3, AV.mref 300016), (300016, .mp (L.map mrB))]) ⟨rfl, rfl, trivial⟩) ?_
  refine AWp.stamps 300016 (l := L.map mrB) rfl rfl fun b0 ck bs hbl hbn hbc => ?_
  rw [hlv] at hbl
  refine aS (aS (aR ?_))
  (refine nx (aM (gN rfl) rfl rfl rfl rfl rfl) rfl ?_)
  (refine nx (a_rangeM 300039 (gN rfl) rfl rfl rfl rfl rfl rfl rfl rfl) rfl ?_)
  show AWp _ _ _ _ _ _ _
  obtain ⟨st, hst⟩ : ∃ st : List Nat → AS, st = fun js => [(3, AV.mref 300016), (39, .mref 300039), (300039, .itr b0 ck ck (js.map fun j => bs.getD j 0)), (300016, .stm (L.map mrB) b0 ck bs)] := ⟨_, rfl⟩
  refine aB (awp_loop (fun m s => ∃ js : List Nat, m + js.length = L.length ∧ js.Nodup ∧ (∀ j ∈ js, j < L.length) ∧ s = st js) (n := L.length) (s' := st []) (by rw [hst]; exact wk_sub ⟨rfl, rfl, rfl, rfl, trivial⟩) ⟨[], rfl, List.nodup_nil, (fun j hj => by cases hj), rfl⟩ ?_)
  rintro m s ⟨js, hm, hjn, hjl, rfl⟩
  rw [hst]
  refine aS (awp_nextM (n := 300016) (k := .i64) rfl rfl rfl rfl rfl rfl rfl rfl rfl (mr_keys L) hbc (Nat.le_refl _) (fun hall => ?_) (fun j x i vc hj hl2 hx => ?_))
  · refine ⟨_, _, _, aX (gN rfl) rfl rfl rfl rfl rfl rfl, (by first | rfl | kernel_rfl), ?_⟩
    show AWp _ _ _ _ _ _ _
    refine aS (aC rfl (fun hc => by cases hc) (fun _ => aE ?_))
    show AWp _ _ _ _ _ _ _
    refine aS (aR ?_)
    (refine nx (aA (gN rfl) rfl rfl rfl rfl rfl) rfl ?_)
    show AWp _ _ _ _ _ _ _
    exact aT (And.intro (.inr rfl) rfl)
  · refine ⟨_, _, _, aX (gN rfl) rfl rfl rfl rfl rfl rfl, (by first | rfl | kernel_rfl), ?_⟩
    show AWp _ _ _ _ _ _ _
    refine aS (aC rfl (fun _ => aK ?_) (fun hc => by cases hc))
    show AWp _ _ _ _ _ _ _
    have hjl2 : j < L.length := by
      rcases Nat.lt_or_ge j bs.length with h | h
      · omega
      · rw [List.getElem?_eq_none h] at hj; cases hj
    obtain ⟨p, hp⟩ : ∃ p, L[j]? = some p := ⟨L[j], List.getElem?_eq_getElem hjl2⟩
    have hpm := List.mem_of_getElem? hp
    have hpi : i = p.v ∧ vc = p.t.cw := by
      rw [List.getElem?_map, hp] at hl2
      have hl2 : some (CV.row [.i p.v, p.t.cw]) = some (.row [.sc (.int .i64 i), vc]) := hl2
      injection hl2 with hl2
      injection hl2 with _ _ hl2
      injection hl2 with hl2 hl2'
      injection hl2' with hl2'
      injection hl2 with _ hl2
      injection hl2 with _ hl2
      exact ⟨hl2.symm, hl2'.symm⟩
    obtain ⟨rfl, rfl⟩ := hpi
    have hnotin : j ∉ js := fun hmem => hx (List.mem_map.2 ⟨j, hmem, by rw [List.getD_eq_getElem?_getD, hj]; rfl⟩)
    have hnd : (js ++ [j]).Nodup := by
      rw [List.nodup_append]
      exact ⟨hjn, by simp, fun a ha b hb => by rw [List.mem_singleton] at hb; subst hb; exact fun e => hnotin (e ▸ ha)⟩
    have hltj : ∀ x ∈ js ++ [j], x < L.length := fun x hx => by
      rcases List.mem_append.1 hx with h | h
      · exact hjl x h
      · rw [List.mem_singleton] at h; omega
    have hva := vars_abs w (hb p hpm).1 (hb p hpm).2
    obtain ⟨V, hV⟩ : ∃ V, V = varsF p.t.flat := ⟨_, rfl⟩
    have hVl : V.length ≤ 90000000000 := by
      rw [hV, nv_vars]
      have h1 : p.t.nv.length ≤ p.t.size := nv_len p.t
      have := (hb p hpm).2
      omega
    rw [← hV] at hva
    have hVs := ints_size V
    have hVn : ∀ u ∈ V, u ∉ L.map Bd.v := fun u hu => by
      rw [hV, nv_vars] at hu
      exact hs p hpm u ((mem_nub _ _).1 hu)
    refine aB (aS (aR ?_))
    (refine nx (a_entryM (n := 300016) (gN rfl) rfl rfl rfl rfl rfl rfl rfl rfl (hj) (hl2)) rfl ?_)
    (refine nx (aX (gN rfl) rfl rfl rfl rfl rfl rfl) rfl ?_)
    (refine nx (a_alloc (gN rfl) rfl rfl rfl rfl rfl rfl rfl rfl rfl rfl) rfl ?_)
    (refine nx (aSt (gN rfl) rfl rfl rfl rfl rfl rfl rfl rfl rfl rfl) rfl ?_)
    show AWp _ _ _ _ _ _ _
    refine AWp.wk (wk_sub (s' := [(3, AV.mref 300016), (9, .bp 9 0 []), (100009, .bx p.t.cw), (39, .mref 300039), (300039, .itr b0 ck ck ((js ++ [j]).map fun j => bs.getD j 0)), (300016, .stm (L.map mrB) b0 ck bs)]) ⟨rfl, rfl, rfl, rfl, ?_, rfl, trivial⟩) ?_
    · rw [List.map_append, List.map_singleton, List.getD_eq_getElem?_getD, hj]; rfl
    refine aS (aR ?_)
    (refine nx (aL (gN rfl) rfl rfl rfl rfl rfl rfl rfl rfl rfl rfl rfl rfl) rfl ?_)
    (refine nx (a_call (gN rfl) rfl rfl rfl rfl rfl (hva)) rfl ?_)
    (refine nx (a_len (gN rfl) rfl rfl rfl rfl rfl rfl rfl) rfl ?_)
    (refine nx (aM (gN rfl) rfl rfl rfl rfl rfl) rfl ?_)
    show AWp _ _ _ _ _ _ _
    refine aB (awp_count V.length (fun k => [(3, AV.mref 300016), (39, .mref 300039), (45, .val (.lst (V.map CV.i))), (46, .val (.i (V.map CV.i).length)), (47, .val (.i k)), (300039, .itr b0 ck ck ((js ++ [j]).map fun j => bs.getD j 0)), (300016, .stm (L.map mrB) b0 ck bs)]) (wk_sub ⟨rfl, rfl, rfl, rfl, rfl, rfl, rfl, trivial⟩) ?_)
    intro k hk2
    refine aS (aR ?_)
    (refine nx (a_lss (gN rfl) rfl rfl rfl rfl rfl rfl) rfl ?_)
    show AWp _ _ _ _ _ _ _
    refine aS (aC rfl (fun hlt => ?_) (fun hlt => ?_))
    · have hkl : k < V.length := by simpa using hlt
      obtain ⟨u, hu⟩ : ∃ u, V[k]? = some u := ⟨V[k], List.getElem?_eq_getElem hkl⟩
      have hu' := ints_at hu
      have hno := look_mr L u (hVn u (List.mem_of_getElem? hu))
      refine aK ?_
      show AWp _ _ _ _ _ _ _
      refine aS (aB (aS (aR ?_)))
      (refine nx (a_index (j := k) (gN rfl) rfl rfl rfl rfl rfl rfl rfl rfl rfl (hu') rfl (hVs)) rfl ?_)
      (refine nx (a_load_ad (gN rfl) rfl rfl rfl rfl rfl rfl rfl rfl rfl) rfl ?_)
      (refine nx (aA (gN rfl) rfl rfl rfl rfl rfl) rfl ?_)
      show AWp _ _ _ _ _ _ _
      refine aS (aR ?_)
      (refine nx (aM (gN rfl) rfl rfl rfl rfl rfl) rfl ?_)
      (refine nx (aM (gN rfl) rfl rfl rfl rfl rfl) rfl ?_)
      (refine nx (a_lookupSn (gN rfl) rfl rfl rfl rfl rfl rfl rfl rfl rfl rfl rfl (mr_keys _) (hno)) rfl ?_)
      (refine nx (aM (gN rfl) rfl rfl rfl rfl rfl) rfl ?_)
      (refine nx (aX (gN rfl) rfl rfl rfl rfl rfl rfl) rfl ?_)
      (refine nx (aX (gN rfl) rfl rfl rfl rfl rfl rfl) rfl ?_)
      (refine nx (a_alloc (gN rfl) rfl rfl rfl rfl rfl rfl rfl rfl rfl rfl) rfl ?_)
      (refine nx (aSt (gN rfl) rfl rfl rfl rfl rfl rfl rfl rfl rfl rfl) rfl ?_)
      (refine nx (aA (gN rfl) rfl rfl rfl rfl rfl) rfl ?_)
      show AWp _ _ _ _ _ _ _
      refine aS (aR ?_)
      (refine nx (aM (gN rfl) rfl rfl rfl rfl rfl) rfl ?_)
      show AWp _ _ _ _ _ _ _
      refine aC rfl (fun hc => by cases hc) (fun hc => aK ?_)
      show AWp _ _ _ _ _ _ _
      refine aR ?_
      (refine nx (a_add (gN rfl) rfl rfl rfl rfl rfl rfl (by first | omega | (simp only [List.length_map, List.length_append, List.length_cons, List.length_nil] <;> omega) | (simp <;> omega))) rfl ?_)
      (refine nx (aM (gN rfl) rfl rfl rfl rfl rfl) rfl ?_)
      exact ⟨hkl, wk_sub ⟨rfl, rfl, rfl, rfl, rfl, rfl, rfl, trivial⟩⟩
    · refine aE ?_
      refine ⟨m - 1, st (js ++ [j]), ?_, ⟨js ++ [j], ?_, hnd, hltj, by rw [hst]⟩, ?_⟩
      · have h2 := nodup_leB hnd hltj
        rw [List.length_append] at h2
        simp at h2
        omega
      · have h2 := nodup_leB hnd hltj
        rw [List.length_append] at h2 ⊢
        simp at h2 ⊢
        omega
      · rw [hst]
        exact wk_sub ⟨rfl, rfl, rfl, rfl, trivial⟩
theorem afun_lend3 {P : Program} {W : World} {f : FuncId} {x : Value} {c1 c2 : CV} {e z nm N : Nat} {l : List CV} (h1 : 300000 ≤ nm) (h2 : nm < 400000) (hN : N = l.length) (h : AFun P W f [c1, c2, .lst l] (.val (.sc x))) : AFunO P f [(nm, .mrow e z l)] [.val c1, .val c2, .sl nm 0 N z] (.val (.sc x)) [(nm, .mrow e z l)] := by
  subst hN
  refine ⟨h.1, fun U w hv a0 vs hU hp ha => ?_⟩
  obtain ⟨u1, us1, rfl, a1, u2, us2, rfl, a2, u3, us3, rfl, a3, a4⟩ := ha
  have a4 : us3 = [] := a4
  subst a4
  have hrn : RN nm := ⟨by omega, by omega⟩
  have hlk : look [(nm, AV.mrow e z l)] nm = some (.mrow e z l) := by rw [look_cons]; simp
  obtain ⟨xs, ho, hz, hsz, hsq⟩ := hp.mrow hlk hrn
  obtain ⟨va, vc, ev, e2, e3, e4, e5⟩ := ownsRow_cs ho
  have a3 : RN nm ∧ SlV (hv nm) 0 l.length z u3 := a3
  obtain ⟨_, ao, m, cap, ao', s1, s2, s3, s4, _⟩ := a3
  rw [ev] at s1
  cases s1
  have e9 := s4 rfl
  subst e9
  have hu3 : VRep (fun _ _ => True) w (.lst l) u3 := by
    rw [s2]
    refine vrep_lst.2 ⟨ao', _, _, rfl, rfl, e2, e3, (fun h => e4 h), xs, ?_, hsq.keep fun b o v _ hc => ⟨trivial, hc⟩⟩
    rcases e5 with h0 | ⟨b, off, ha, hlt, hc⟩
    · exact .inl h0
    · exact .inr ⟨b, off, ha, fun i hi => ⟨trivial, hc i hi⟩⟩
  refine (h.2.2.2 (fun _ _ => True) w _ trivial ⟨_, _, rfl, a1.1.mono fun b o _ => trivial, _, _, rfl, a2.1.mono fun b o _ => trivial, _, _, rfl, hu3, rfl⟩).mono ?_
  rintro e' w' ⟨v, rfl, hr, hB⟩
  obtain ⟨rfl, h9⟩ := vrep_sc.1 hr
  exact ⟨_, _, hv, a0, rfl, hp.grow' hB, avrep_sc h9⟩
end Go.Proofs.Ytiammidklcjelab
