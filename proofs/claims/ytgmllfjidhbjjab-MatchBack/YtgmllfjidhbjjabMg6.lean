/-
  SbThen MtMath2 MtAlive SbVnt2
-/
import Derived.Test.YtgmllfjidhbjjabMg5
import Derived.Test.YtgmllfjidhbjjabMg4
namespace Go.Proofs.Ytgmllfjidhbjjab
open Go.RowKit
set_option linter.unusedVariables false
set_option linter.unusedSimpArgs false
set_option maxRecDepth 100000

def putB (M : List Bd) (b : Bd) : Bd := ⟨b.v, repT (imgB M) b.t⟩
def thenF (L M : List Bd) : List Bd := normF ((firstsF L).map (putB M) ++ M)

theorem findB_appd (A M : List Bd) (v : Int) : findB (A ++ M) v = (findB A v).or (findB M v) := by
  induction A with
  | nil => rfl
  | cons b A ih =>
    rw [List.cons_append, findB, findB]
    split
    · rfl
    · exact ih
theorem findB_putB (M : List Bd) : ∀ (L : List Bd) (v : Int), findB (L.map (putB M)) v = (findB L v).map (repT (imgB M))
  | [], _ => rfl
  | b :: L, v => by
    rw [List.map_cons, findB, findB]
    show (if b.v = v then _ else _) = _
    split
    · rfl
    · exact findB_putB M L v
theorem rep_two (f g : Int → Tm) (t : Tm) : repT g (repT f t) = repT (fun v => repT g (f v)) t := by
  induction t using Tm.indp with
  | h t ih =>
    by_cases hf : t.f < 0
    · rw [repT_var hf, repT_var hf, rep_strip, rep_bare]
    · rw [Tm.ps_of_sym (by omega)] at ih
      rw [repT_sym hf, repT_sym (t := ⟨t.f, _⟩) hf, repT_sym hf]
      simp only [List.map_map]
      congr 1
      exact List.map_congr_left fun s hs => ih s hs
theorem img_then (L M : List Bd) {v : Int} (hv : 0 ≤ v) : (imgB (thenF L M) v).strip = repT (imgB M) (imgB L v) := by
  unfold thenF
  rw [img_norm _ hv]
  unfold imgB
  rw [findB_appd, findB_putB, (firstsF_spec L).1]
  cases h : findB L v with
  | some t => show (repT (imgB M) t).strip = repT (imgB M) t; rw [rep_bare]
  | none =>
    show ((findB M v).getD (varT v)).strip = repT (imgB M) (varT v)
    rw [repT_var (by show -1 - v < 0; omega)]
    show _ = (imgB M (-1 - (-1 - v))).strip
    rw [show -1 - (-1 - v) = v by omega]
    rfl
theorem rep_then (L M : List Bd) (t : Tm) : repT (imgB (thenF L M)) t = repT (imgB M) (repT (imgB L) t) := by
  rw [rep_two]
  exact rep_congrS fun v hv => by rw [img_then L M (vs_nonneg t v hv), rep_bare]

/-- Terms of no more than n symbols. -/
def Bnd (n : Nat) (L : List Bd) : Prop := ∀ b ∈ L, b.t.rng ∧ b.t.ok ∧ b.t.size ≤ n
theorem Bnd.ok {n : Nat} {L : List Bd} (h : Bnd n L) (hn : n ≤ 1000000000) : bdsOk L := fun b hb => ⟨(h b hb).1, Nat.le_trans (h b hb).2.2 hn⟩
theorem Bnd.img {n : Nat} {L : List Bd} (h : Bnd n L) (hn : 1 ≤ n) (v : Int) : (imgB L v).ok ∧ (imgB L v).size ≤ n := by
  unfold imgB
  cases e : findB L v with
  | none => exact ⟨leaf_ok _, by show (varT v).size ≤ n; rw [varT_size]; exact hn⟩
  | some t =>
    obtain ⟨b, hb, rfl, _⟩ := findB_mem e
    exact (h b hb).2
theorem rep_le {img : Int → Tm} {m : Nat} (hm : 1 ≤ m) (h : ∀ v, (img v).size ≤ m) (t : Tm) : (repT img t).size ≤ t.size * m := by
  have e := repT_size img t
  have hs : (t.vs.map fun v => ((img v).size : Int) - 1).sum ≤ (t.vs.length : Int) * ((m : Int) - 1) := by
    generalize t.vs = l
    induction l with
    | nil => simp
    | cons v l ih =>
      have := h v
      rw [List.map_cons, List.sum_cons, List.length_cons]
      have e2 : ((l.length + 1 : Nat) : Int) * ((m : Int) - 1) = (l.length : Int) * ((m : Int) - 1) + ((m : Int) - 1) := by
        rw [Int.natCast_add, Int.add_mul]; simp
      rw [e2]
      omega
  have hl : t.vs.length ≤ t.size := by
    unfold Tm.vs vsL Tm.size
    rw [List.length_map]
    exact List.length_filter_le _ _
  have h2 : (t.vs.length : Int) * ((m : Int) - 1) ≤ (t.size : Int) * ((m : Int) - 1) := Int.mul_le_mul_of_nonneg_right (by omega) (by omega)
  have h3 : (t.size : Int) * ((m : Int) - 1) = (t.size : Int) * (m : Int) - t.size := by rw [Int.mul_sub, Int.mul_one]
  have h4 : ((t.size * m : Nat) : Int) = (t.size : Int) * (m : Int) := Int.natCast_mul _ _
  omega
theorem Bnd.norm {n : Nat} {L : List Bd} (h : Bnd n L) : Bnd n (normF L) := fun b hb => by
  unfold normF at hb
  obtain ⟨c, hc, rfl⟩ := List.mem_map.1 hb
  obtain ⟨h1, h2, h3⟩ := h c (firstsF_mem (List.mem_filter.1 hc).1)
  exact ⟨Tm.strip_rng h1, Tm.strip_ok h2, by show c.t.strip.size ≤ n; rw [Tm.strip_size]; exact h3⟩
theorem Bnd.then {n m : Nat} {L M : List Bd} (hL : Bnd n L) (hM : Bnd m M) (hn : 1 ≤ n) (hm : 1 ≤ m) (hb : m ≤ 1000000000) : Bnd (n * m) (thenF L M) ∧ ∀ b ∈ L, (repT (imgB M) b.t).size ≤ n * m := by
  have hs : ∀ b ∈ L, (repT (imgB M) b.t).size ≤ n * m := fun b hbL => Nat.le_trans (rep_le hm (fun v => (hM.img hm v).2) b.t) (Nat.mul_le_mul_right _ (hL b hbL).2.2)
  refine ⟨Bnd.norm fun b hb' => ?_, hs⟩
  rcases List.mem_append.1 hb' with hb' | hb'
  · obtain ⟨c, hc, rfl⟩ := List.mem_map.1 hb'
    have hcL := firstsF_mem hc
    obtain ⟨h1, h2, h3⟩ := hL c hcL
    exact ⟨repT_rng h1 fun v g1 g2 => (imgB_ok (hM.ok hb) g1 g2).1, repT_ok h2 fun v => (hM.img hm v).1, hs c hcL⟩
  · obtain ⟨h1, h2, h3⟩ := hM b hb'
    exact ⟨h1, h2, Nat.le_trans h3 (Nat.le_mul_of_pos_left _ hn)⟩
theorem normF_len (L : List Bd) : (normF L).length ≤ L.length := by
  unfold normF
  rw [List.length_map]
  exact Nat.le_trans (List.length_filter_le _ _) (firstsF_len L)
theorem thenF_len (L M : List Bd) : (thenF L M).length ≤ L.length + M.length := by
  unfold thenF
  refine Nat.le_trans (normF_len _) ?_
  have := firstsF_len L
  simp; omega
end Go.Proofs.Ytgmllfjidhbjjab

namespace Go.Proofs.Ytgmllfjidhbjjab
set_option linter.unusedVariables false

theorem findB_has {L : List Bd} {v : Int} {u : Tm} (h : findB L v = some u) : v ∈ L.map Bd.v := by
  induction L with
  | nil => cases h
  | cons b L ih =>
    rw [findB] at h
    split at h
    · rename_i e; rw [← e]; simp
    · exact List.mem_cons_of_mem _ (ih h)
theorem findB_not {L : List Bd} {v : Int} (h : findB L v = none) : v ∉ L.map Bd.v := by
  induction L with
  | nil => simp
  | cons b L ih =>
    rw [findB] at h
    split at h
    · cases h
    · rename_i e
      rw [List.map_cons, List.mem_cons]
      rintro (h1 | h1)
      · exact e h1.symm
      · exact ih h h1
theorem bindM_names {L : List Bd} {v : Int} {t : Tm} : (bindM L v t).2.map Bd.v = nubS (L.map Bd.v) v := by
  unfold bindM nubS
  split
  · rename_i u hu; rw [if_pos (findB_has hu)]
  · rename_i hu; rw [if_neg (findB_not hu)]; simp
theorem mts_names : ∀ {ps ts : List Tm} {L : List Bd}, (∀ p ∈ ps, ∀ t L, (mt p t L).1 = true → (mt p t L).2.map Bd.v = p.vs.foldl nubS (L.map Bd.v)) → ps.length = ts.length → (mts ps ts L).1 = true → (mts ps ts L).2.map Bd.v = (ps.flatMap Tm.vs).foldl nubS (L.map Bd.v)
  | [], _, _, _, _, _ => rfl
  | _ :: _, [], _, _, h, _ => by simp at h
  | p :: ps, t :: ts, L, ih, hl, h => by
    rw [mts_cons] at h ⊢
    cases h1 : (mt p t L).1 with
    | false => rw [pairM_f h1] at h; cases h
    | true =>
      rw [pairM_t h1] at h ⊢
      rw [mts_names (fun q hq => ih q (List.mem_cons_of_mem _ hq)) (by simpa using hl) h, ih p (by simp) t L h1, List.flatMap_cons, List.foldl_append]
/-- Which numbers are bound, in which order. -/
theorem mt_names (p : Tm) : ∀ t L, (mt p t L).1 = true → (mt p t L).2.map Bd.v = p.vs.foldl nubS (L.map Bd.v) := by
  induction p using Tm.ind with
  | h f l ih =>
    intro t L h
    by_cases hf : f < 0
    · rw [mt_var _ _ hf, Tm.vs_var hf, bindM_names]; rfl
    · by_cases h2 : f ≠ t.f ∨ l.length ≠ t.l.length
      · rw [mt_ne _ hf h2] at h; cases h
      · rw [mt_sym _ hf (by show f = _; omega) (by show l.length = _; omega)] at h ⊢
        rw [Tm.vs_sym hf]
        exact mts_names ih (by show l.length = _; omega) h
theorem mt_nv {p t : Tm} (h : (mt p t []).1 = true) : (mt p t []).2.map Bd.v = p.nv := mt_names p t [] h

theorem mts_size : ∀ {ps ts : List Tm} {L : List Bd} {n : Nat}, (∀ p ∈ ps, ∀ t L, ∀ b ∈ (mt p t L).2, b ∈ L ∨ b.t.size ≤ t.size) → (∀ t ∈ ts, t.size ≤ n) → ∀ b ∈ (mts ps ts L).2, b ∈ L ∨ b.t.size ≤ n
  | [], _, _, _, _, _, b, hb => .inl hb
  | _ :: _, [], _, _, _, _, b, hb => .inl hb
  | p :: ps, t :: ts, L, n, ih, hn, b, hb => by
    rw [mts_cons] at hb
    have h0 : b ∈ (mt p t L).2 → b ∈ L ∨ b.t.size ≤ n := fun hb => (ih p (by simp) t L b hb).imp id fun h => Nat.le_trans h (hn t (by simp))
    cases h1 : (mt p t L).1 with
    | false => rw [pairM_f h1] at hb; exact h0 hb
    | true =>
      rw [pairM_t h1] at hb
      rcases mts_size (fun q hq => ih q (List.mem_cons_of_mem _ hq)) (fun q hq => hn q (List.mem_cons_of_mem _ hq)) b hb with h | h
      · exact h0 h
      · exact .inr h
theorem mt_size (p : Tm) : ∀ t L, ∀ b ∈ (mt p t L).2, b ∈ L ∨ b.t.size ≤ t.size := by
  induction p using Tm.ind with
  | h f l ih =>
    intro t L b hb
    by_cases hf : f < 0
    · rw [mt_var _ _ hf] at hb
      unfold bindM at hb
      split at hb
      · exact .inl hb
      · rcases List.mem_append.1 hb with hb | hb
        · exact .inl hb
        · rw [List.mem_singleton] at hb; rw [hb]; exact .inr (Nat.le_refl _)
    · by_cases h2 : f ≠ t.f ∨ l.length ≠ t.l.length
      · rw [mt_ne _ hf h2] at hb; exact .inl hb
      · rw [mt_sym _ hf (by show f = _; omega) (by show l.length = _; omega)] at hb
        refine mts_size ih (fun s hs => ?_) b hb
        have : s ∈ t.ps := by rw [Tm.ps_of_sym (by omega)]; exact hs
        exact Nat.le_of_lt (Tm.size_part this)
theorem mts_okL : ∀ {ps ts : List Tm} {L : List Bd}, (∀ p ∈ ps, ∀ t L, t.ok → ∀ b ∈ (mt p t L).2, b ∈ L ∨ b.t.ok) → (∀ t ∈ ts, t.ok) → ∀ b ∈ (mts ps ts L).2, b ∈ L ∨ b.t.ok
  | [], _, _, _, _, b, hb => .inl hb
  | _ :: _, [], _, _, _, b, hb => .inl hb
  | p :: ps, t :: ts, L, ih, hn, b, hb => by
    rw [mts_cons] at hb
    have h0 : b ∈ (mt p t L).2 → b ∈ L ∨ b.t.ok := fun hb => ih p (by simp) t L (hn t (by simp)) b hb
    cases h1 : (mt p t L).1 with
    | false => rw [pairM_f h1] at hb; exact h0 hb
    | true =>
      rw [pairM_t h1] at hb
      rcases mts_okL (fun q hq => ih q (List.mem_cons_of_mem _ hq)) (fun q hq => hn q (List.mem_cons_of_mem _ hq)) b hb with h | h
      · exact h0 h
      · exact .inr h
theorem mt_okL (p : Tm) : ∀ t L, t.ok → ∀ b ∈ (mt p t L).2, b ∈ L ∨ b.t.ok := by
  induction p using Tm.ind with
  | h f l ih =>
    intro t L ht b hb
    by_cases hf : f < 0
    · rw [mt_var _ _ hf] at hb
      unfold bindM at hb
      split at hb
      · exact .inl hb
      · rcases List.mem_append.1 hb with hb | hb
        · exact .inl hb
        · rw [List.mem_singleton] at hb; rw [hb]; exact .inr ht
    · by_cases h2 : f ≠ t.f ∨ l.length ≠ t.l.length
      · rw [mt_ne _ hf h2] at hb; exact .inl hb
      · rw [mt_sym _ hf (by show f = _; omega) (by show l.length = _; omega)] at hb
        exact mts_okL ih (fun s hs => ((Tm.ok_iff _).1 ht).2 s hs) b hb

theorem rep_inj {f g : Int → Tm} {t : Tm} (h : repT f t = repT g t) : ∀ v ∈ t.vs, (f v).strip = (g v).strip := by
  induction t using Tm.ind with
  | h k l ih =>
    intro v hv
    by_cases hk : k < 0
    · rw [repT_var hk, repT_var hk] at h
      rw [Tm.vs_var hk, List.mem_singleton] at hv
      rw [hv]; exact h
    · rw [repT_sym hk, repT_sym hk] at h
      obtain ⟨_, h2⟩ := tm_eq h
      rw [Tm.vs_sym hk, List.mem_flatMap] at hv
      obtain ⟨s, hs, hvs⟩ := hv
      exact ih s hs (List.map_inj_left.1 h2 s hs) v hvs
theorem vntB_strip (a b : Tm) : vntB a b.strip = vntB a b := by
  unfold vntB Tm.nv
  rw [Tm.strip_vs, Bool.eq_iff_iff, Bool.and_eq_true, Bool.and_eq_true, sameT_iff, sameT_iff, Tm.strip_strip]
/-- Both ways: variants. -/
theorem both_vnt {x y : Tm} {σ τ : Int → Tm} (h1 : repT σ x = y.strip) (h2 : repT τ y = x.strip) : vntB x y = true := by
  have h3 : repT (fun v => repT τ (σ v)) x = repT varT x := by rw [← rep_two, h1, rep_strip, h2, rep_id]
  have h4 := rep_inj h3
  have h5 : ∀ v ∈ x.vs, (σ v).f < 0 ∧ (τ (-1 - (σ v).f)).strip = varT v := fun v hv => by
    have h6 := h4 v hv
    rw [rep_bare, varT_strip] at h6
    have h0 := vs_nonneg x v hv
    by_cases hf : (σ v).f < 0
    · rw [repT_var hf] at h6
      exact ⟨hf, h6⟩
    · rw [repT_sym hf] at h6
      have := congrArg Tm.f h6
      have e : (σ v).f = -1 - v := this
      omega
  have h7 : y.strip = repT (fun v => varT (-1 - (σ v).f)) x := by
    rw [← h1]
    refine rep_congrS fun v hv => ?_
    rw [varT_strip, Tm.strip_eq, Tm.ps_of_var (h5 v hv).1]
    show (⟨(σ v).f, []⟩ : Tm) = ⟨-1 - (-1 - (σ v).f), []⟩
    rw [show -1 - (-1 - (σ v).f) = (σ v).f by omega]
  rw [← vntB_strip, h7]
  refine vnt_ren x _ (fun v hv => ?_) fun a ha b hb e => ?_
  · have := (h5 v hv).1; omega
  · have e1 := (h5 a ha).2
    have e2 := (h5 b hb).2
    rw [e, e2] at e1
    have := congrArg Tm.f e1
    have e3 : -1 - b = -1 - a := this
    omega
/-- What was bound, as it is told. -/
theorem ext_self (L : List Bd) : Ext L (imgB L) := fun v u h => by unfold imgB; rw [h]; rfl
theorem findB_cl (L : List Bd) (v : Int) : findB (L.map fun b => ⟨b.v, b.t.strip⟩) v = (findB L v).map Tm.strip := by
  induction L with
  | nil => rfl
  | cons b L ih =>
    rw [List.map_cons, findB, findB]
    split
    · rfl
    · exact ih
theorem ext_cl (L : List Bd) : Ext L (imgB (L.map fun b => ⟨b.v, b.t.strip⟩)) := fun v u h => by
  unfold imgB
  rw [findB_cl, h]
  exact Tm.strip_strip u
theorem mt_self {p t : Tm} {M : Int → Tm} (h : repT M p = t.strip) : (mt p t []).1 = true := (mt_most M p t [] (fun v u h => by cases h) h).1
theorem mt_rep {p t : Tm} (h : (mt p t []).1 = true) : repT (imgB (mt p t []).2) p = t.strip := mt_sound _ p t [] h (ext_self _)
/-- It goes both ways just for variants. -/
theorem mt_both (x y : Tm) : ((mt x y []).1 && (mt y x []).1) = vntB x y := by
  rw [Bool.eq_iff_iff, Bool.and_eq_true]
  constructor
  · rintro ⟨h1, h2⟩
    exact both_vnt (mt_rep h1) (mt_rep h2)
  · intro h
    have hs : vntB y x = true := by rw [vnt_symm, ← vnt_iff]; exact h
    constructor
    · unfold vntB at h
      rw [Bool.and_eq_true] at h
      have := (sameT_iff _ _).1 h.2
      rw [rep_bare] at this
      exact mt_self this
    · unfold vntB at hs
      rw [Bool.and_eq_true] at hs
      have := (sameT_iff _ _).1 hs.2
      rw [rep_bare] at this
      exact mt_self this
end Go.Proofs.Ytgmllfjidhbjjab

namespace Go.Proofs.Ytgmllfjidhbjjab
open Go.RowKit
set_option linter.unusedVariables false
set_option linter.unusedSimpArgs false
set_option maxRecDepth 100000

theorem same_leaf (f g : Int) : sameT ⟨f, []⟩ ⟨g, []⟩ = decide (f = g) := by
  rw [Bool.eq_iff_iff, sameT_iff, decide_eq_true_eq]
  constructor
  · intro h
    have := congrArg Tm.f h
    rwa [Tm.strip_f, Tm.strip_f] at this
  · rintro rfl; rfl
theorem alive_m1 : (mt ⟨4, [⟨-1, []⟩, ⟨-1, []⟩]⟩ ⟨4, [⟨1, []⟩, ⟨1, []⟩]⟩ []).1 = true := by
  rw [mt_sym (p := ⟨4, [⟨-1, []⟩, ⟨-1, []⟩]⟩) (t := ⟨4, [⟨1, []⟩, ⟨1, []⟩]⟩) [] (by decide) rfl rfl]
  simp only [mts_cons, mts_nil]
  rw [mt_var _ _ (by decide)]
  simp only [bindM, findB, pairM, List.nil_append]
  rw [mts_cons, mt_var _ _ (by decide)]
  simp [bindM, findB, pairM, same_leaf, mts_nil]
theorem alive_m2 : (mt ⟨4, [⟨-1, []⟩, ⟨-1, []⟩]⟩ ⟨4, [⟨1, []⟩, ⟨2, []⟩]⟩ []).1 = false := by
  rw [mt_sym (p := ⟨4, [⟨-1, []⟩, ⟨-1, []⟩]⟩) (t := ⟨4, [⟨1, []⟩, ⟨2, []⟩]⟩) [] (by decide) rfl rfl]
  simp only [mts_cons, mts_nil]
  rw [mt_var _ _ (by decide)]
  simp only [bindM, findB, pairM, List.nil_append]
  rw [mts_cons, mt_var _ _ (by decide)]
  simp [bindM, findB, pairM, same_leaf, mts_nil]
theorem alive_m3 : (mt ⟨1, []⟩ ⟨-1, []⟩ []).1 = false := by
  rw [mt_ne _ (by decide) (.inl (by decide))]
theorem two_rng {f g h : Int} (h1 : -100 ≤ f ∧ f ≤ 100) (h2 : -100 ≤ g ∧ g ≤ 100) (h3 : -100 ≤ h ∧ h ≤ 100) : (Tm.mk f [⟨g, []⟩, ⟨h, []⟩]).rng ∧ (Tm.mk f [⟨g, []⟩, ⟨h, []⟩]).ok := by
  constructor
  · refine (Tm.rng_iff _).2 ⟨⟨by show -9223372036854775808 ≤ f; omega, by show f ≤ 9223372036854775807; omega⟩, fun s hs => ?_⟩
    simp at hs
    rcases hs with rfl | rfl <;> exact leaf_rng (by omega) (by omega)
  · refine (Tm.ok_iff _).2 ⟨by show 2 ≤ _; omega, fun s hs => ?_⟩
    simp at hs
    rcases hs with rfl | rfl <;> exact leaf_ok _
theorem two_vs : (Tm.mk 4 [⟨-1, []⟩, ⟨-1, []⟩]).vs.length ≤ 65 := by
  rw [Tm.vs_sym (by decide)]
  show ([⟨-1, []⟩, ⟨-1, []⟩].flatMap Tm.vs).length ≤ 65
  rw [List.flatMap_cons, List.flatMap_cons, List.flatMap_nil, Tm.vs_var (by decide)]
  decide
set_option maxHeartbeats 2000000 in
-- 
theorem alive9_abs (W : World) : AFun Try.prog W 7 [] (.val (.b true)) := by
  refine afun_of (rs := [.b true]) Try.func7 Try.ntmps7 rfl rfl rfl rfl ?_
  intro w U hW
  have r1 := two_rng (f := 4) (g := -1) (h := -1) (by decide) (by decide) (by decide)
  have i1 := mIs_abs w ⟨4, [⟨-1, []⟩, ⟨-1, []⟩]⟩ ⟨4, [⟨1, []⟩, ⟨1, []⟩]⟩ r1.1 r1.2 (two_rng (by decide) (by decide) (by decide)).1 two_vs
  rw [alive_m1] at i1
  have i2 := mIs_abs w ⟨4, [⟨-1, []⟩, ⟨-1, []⟩]⟩ ⟨4, [⟨1, []⟩, ⟨2, []⟩]⟩ r1.1 r1.2 (two_rng (by decide) (by decide) (by decide)).1 two_vs
  rw [alive_m2] at i2
  have i3 := mIs_abs w ⟨1, []⟩ ⟨-1, []⟩ (leaf_rng (by decide) (by decide)) (leaf_ok _) (leaf_rng (by decide) (by decide)) (by rw [leaf_vs _ (by decide)]; decide)
  rw [alive_m3] at i3
  refine awp_seq (awp_region ?_)
  (refine ⟨_, _, _, a_assign (gd_none rfl) rfl rfl rfl rfl rfl, (by first | rfl | kernel_rfl), ?_⟩)
  show AWp _ _ _ _ _ _ _
  refine awp_seq (awp_region ?_)
  (refine ⟨_, _, _, a_buildP (gd_none rfl) rfl rfl rfl rfl rfl rfl rfl rfl rfl rfl rfl, (by first | rfl | kernel_rfl), ?_⟩)
  (refine ⟨_, _, _, a_buildP (gd_none rfl) rfl rfl rfl rfl rfl rfl rfl rfl rfl rfl rfl, (by first | rfl | kernel_rfl), ?_⟩)
  (refine ⟨_, _, _, a_bslice (gd_none rfl) rfl rfl rfl rfl rfl rfl rfl rfl rfl rfl rfl rfl rfl, (by first | rfl | kernel_rfl), ?_⟩)
  (refine ⟨_, _, _, a_build (gd_none rfl) rfl rfl rfl rfl rfl rfl rfl rfl rfl rfl rfl, (by first | rfl | kernel_rfl), ?_⟩)
  (refine ⟨_, _, _, a_alloc (gd_none rfl) rfl rfl rfl rfl rfl rfl rfl rfl rfl rfl, (by first | rfl | kernel_rfl), ?_⟩)
  (first | (refine ⟨_, _, _, a_store_all (gd_none rfl) rfl rfl rfl rfl rfl rfl rfl rfl rfl rfl, (by first | rfl | kernel_rfl), ?_⟩) | (refine ⟨_, _, _, a_store (gd_none rfl) rfl rfl rfl rfl rfl rfl rfl rfl rfl rfl, (by first | rfl | kernel_rfl), ?_⟩) | (refine ⟨_, _, _, a_store_fld (gd_none rfl) rfl rfl rfl rfl rfl rfl rfl rfl rfl rfl rfl rfl, (by first | rfl | kernel_rfl), ?_⟩))
  show AWp _ _ _ _ _ _ _
  refine awp_seq (awp_region ?_)
  (first | (refine ⟨_, _, _, a_load_all (gd_none rfl) rfl rfl rfl rfl rfl rfl rfl rfl rfl rfl rfl rfl, (by first | rfl | kernel_rfl), ?_⟩) | (refine ⟨_, _, _, a_load_tok (gd_none rfl) rfl rfl rfl rfl rfl rfl rfl rfl rfl rfl rfl rfl rfl, (by first | rfl | kernel_rfl), ?_⟩) | (refine ⟨_, _, _, a_load_bp (gd_none rfl) rfl rfl rfl rfl rfl rfl rfl rfl rfl rfl rfl rfl, (by first | rfl | kernel_rfl), ?_⟩) | (refine ⟨_, _, _, a_load_ad (gd_none rfl) rfl rfl rfl rfl rfl rfl rfl rfl rfl, (by first | rfl | kernel_rfl), ?_⟩) | (refine ⟨_, _, _, a_load_ptr (gd_none rfl) rfl rfl rfl rfl rfl rfl rfl rfl rfl, (by first | rfl | kernel_rfl), ?_⟩) | (refine ⟨_, _, _, a_load_fld (gd_none rfl) rfl rfl rfl rfl rfl rfl rfl rfl rfl rfl rfl rfl rfl, (by first | rfl | kernel_rfl), ?_⟩) | (refine ⟨_, _, _, a_load_fullv (gd_none rfl) rfl rfl rfl rfl rfl rfl rfl rfl rfl, (by first | rfl | kernel_rfl), ?_⟩))
  (refine ⟨_, _, _, a_build (gd_none rfl) rfl rfl rfl rfl rfl rfl rfl rfl rfl rfl rfl, (by first | rfl | kernel_rfl), ?_⟩)
  (refine ⟨_, _, _, a_build (gd_none rfl) rfl rfl rfl rfl rfl rfl rfl rfl rfl rfl rfl, (by first | rfl | kernel_rfl), ?_⟩)
  (refine ⟨_, _, _, a_bslice (gd_none rfl) rfl rfl rfl rfl rfl rfl rfl rfl rfl rfl rfl rfl rfl, (by first | rfl | kernel_rfl), ?_⟩)
  (refine ⟨_, _, _, a_build (gd_none rfl) rfl rfl rfl rfl rfl rfl rfl rfl rfl rfl rfl, (by first | rfl | kernel_rfl), ?_⟩)
  (refine ⟨_, _, _, a_call (gd_none rfl) rfl rfl rfl rfl rfl (i1), (by first | rfl | kernel_rfl), ?_⟩)
  (refine ⟨_, _, _, a_move (gd_none rfl) rfl rfl rfl rfl rfl, (by first | rfl | kernel_rfl), ?_⟩)
  (first | (refine ⟨_, _, _, a_load_all (gd_on rfl rfl rfl rfl (by first | rfl | assumption | (simp; done))) rfl rfl rfl rfl rfl rfl rfl rfl rfl rfl rfl rfl, (by first | rfl | kernel_rfl), ?_⟩) | (refine ⟨_, _, _, a_load_tok (gd_on rfl rfl rfl rfl (by first | rfl | assumption | (simp; done))) rfl rfl rfl rfl rfl rfl rfl rfl rfl rfl rfl rfl rfl, (by first | rfl | kernel_rfl), ?_⟩) | (refine ⟨_, _, _, a_load_bp (gd_on rfl rfl rfl rfl (by first | rfl | assumption | (simp; done))) rfl rfl rfl rfl rfl rfl rfl rfl rfl rfl rfl rfl, (by first | rfl | kernel_rfl), ?_⟩) | (refine ⟨_, _, _, a_load_ad (gd_on rfl rfl rfl rfl (by first | rfl | assumption | (simp; done))) rfl rfl rfl rfl rfl rfl rfl rfl rfl, (by first | rfl | kernel_rfl), ?_⟩) | (refine ⟨_, _, _, a_load_ptr (gd_on rfl rfl rfl rfl (by first | rfl | assumption | (simp; done))) rfl rfl rfl rfl rfl rfl rfl rfl rfl, (by first | rfl | kernel_rfl), ?_⟩) | (refine ⟨_, _, _, a_load_fld (gd_on rfl rfl rfl rfl (by first | rfl | assumption | (simp; done))) rfl rfl rfl rfl rfl rfl rfl rfl rfl rfl rfl rfl rfl, (by first | rfl | kernel_rfl), ?_⟩) | (refine ⟨_, _, _, a_load_fullv (gd_on rfl rfl rfl rfl (by first | rfl | assumption | (simp; done))) rfl rfl rfl rfl rfl rfl rfl rfl rfl, (by first | rfl | kernel_rfl), ?_⟩))
  (refine ⟨_, _, _, a_build (gd_on rfl rfl rfl rfl (by first | rfl | assumption | (simp; done))) rfl rfl rfl rfl rfl rfl rfl rfl rfl rfl rfl, (by first | rfl | kernel_rfl), ?_⟩)
  (refine ⟨_, _, _, a_build (gd_on rfl rfl rfl rfl (by first | rfl | assumption | (simp; done))) rfl rfl rfl rfl rfl rfl rfl rfl rfl rfl rfl, (by first | rfl | kernel_rfl), ?_⟩)
  (refine ⟨_, _, _, a_bslice (gd_on rfl rfl rfl rfl (by first | rfl | assumption | (simp; done))) rfl rfl rfl rfl rfl rfl rfl rfl rfl rfl rfl rfl rfl, (by first | rfl | kernel_rfl), ?_⟩)
  (refine ⟨_, _, _, a_build (gd_on rfl rfl rfl rfl (by first | rfl | assumption | (simp; done))) rfl rfl rfl rfl rfl rfl rfl rfl rfl rfl rfl, (by first | rfl | kernel_rfl), ?_⟩)
  (refine ⟨_, _, _, a_call (gd_on rfl rfl rfl rfl (by first | rfl | assumption | (simp; done))) rfl rfl rfl rfl rfl (i2), (by first | rfl | kernel_rfl), ?_⟩)
  (refine ⟨_, _, _, a_not (gd_on rfl rfl rfl rfl (by first | rfl | assumption | (simp; done))) rfl rfl rfl rfl rfl, (by first | rfl | kernel_rfl), ?_⟩)
  (first | (refine ⟨_, _, _, a_pick_t (gd_none rfl) rfl rfl rfl rfl rfl ?hb rfl, rfl, ?_⟩; case hb => (first | rfl | assumption | (simp; done))) | (refine ⟨_, _, _, a_pick_f (gd_none rfl) rfl rfl rfl rfl rfl ?hb rfl, rfl, ?_⟩; case hb => (first | rfl | assumption | (simp; done))))
  (refine ⟨_, _, _, a_move (gd_none rfl) rfl rfl rfl rfl rfl, (by first | rfl | kernel_rfl), ?_⟩)
  (refine ⟨_, _, _, a_build (gd_on rfl rfl rfl rfl (by first | rfl | assumption | (simp; done))) rfl rfl rfl rfl rfl rfl rfl rfl rfl rfl rfl, (by first | rfl | kernel_rfl), ?_⟩)
  (refine ⟨_, _, _, a_build (gd_on rfl rfl rfl rfl (by first | rfl | assumption | (simp; done))) rfl rfl rfl rfl rfl rfl rfl rfl rfl rfl rfl, (by first | rfl | kernel_rfl), ?_⟩)
  (refine ⟨_, _, _, a_call (gd_on rfl rfl rfl rfl (by first | rfl | assumption | (simp; done))) rfl rfl rfl rfl rfl (i3), (by first | rfl | kernel_rfl), ?_⟩)
  (refine ⟨_, _, _, a_not (gd_on rfl rfl rfl rfl (by first | rfl | assumption | (simp; done))) rfl rfl rfl rfl rfl, (by first | rfl | kernel_rfl), ?_⟩)
  (first | (refine ⟨_, _, _, a_pick_t (gd_none rfl) rfl rfl rfl rfl rfl ?hb rfl, rfl, ?_⟩; case hb => (first | rfl | assumption | (simp; done))) | (refine ⟨_, _, _, a_pick_f (gd_none rfl) rfl rfl rfl rfl rfl ?hb rfl, rfl, ?_⟩; case hb => (first | rfl | assumption | (simp; done))))
  (refine ⟨_, _, _, a_assign (gd_none rfl) rfl rfl rfl rfl rfl, (by first | rfl | kernel_rfl), ?_⟩)
  show AWp _ _ _ _ _ _ _
  exact awp_ret (And.intro (.inr rfl) rfl)
end Go.Proofs.Ytgmllfjidhbjjab

namespace Go.Proofs.Ytgmllfjidhbjjab
open Go.RowKit
set_option linter.unusedVariables false
set_option linter.unusedSimpArgs false
set_option maxRecDepth 100000

theorem nv_len (t : Tm) : t.nv.length ≤ t.size := by
  have h : ∀ l : List Int, (nub l).length ≤ l.length := by
    intro l
    induction l using snoc_ind with
    | h0 => exact Nat.le_refl _
    | h1 l x ih => rw [nub_snoc]; split <;> simp <;> omega
  refine Nat.le_trans (h t.vs) ?_
  unfold Tm.vs vsL Tm.size
  rw [List.length_map]
  exact List.length_filter_le _ _
theorem nv_rng {t : Tm} (h : t.rng) : ∀ v ∈ t.nv, 0 ≤ v ∧ v ≤ 9223372036854775807 := by
  intro v hv
  have hv := (mem_nub _ _).1 hv
  have h1 := vs_nonneg t v hv
  have h2 := vs_le (t := t) (B := 9223372036854775808) (fun s hs => (Tm.rng_flat h s hs).1) v hv
  omega
theorem zip_at {a b : List Int} {k : Nat} {v u : Int} (h1 : a[k]? = some v) (h2 : b[k]? = some u) : (zipB a b)[k]? = some ⟨v, varT u⟩ := by
  unfold zipB
  rw [List.getElem?_zipWith, h1, h2]
theorem zip_len {a b : List Int} (h : a.length = b.length) : (zipB a b).length = a.length := by
  unfold zipB
  rw [List.length_zipWith]; omega
theorem zip_mem {a b : List Int} {x : Bd} (h : x ∈ zipB a b) : ∃ u ∈ b, x.t = varT u := by
  unfold zipB at h
  obtain ⟨i, hi, e⟩ := List.mem_iff_getElem.1 h
  rw [List.getElem_zipWith] at e
  exact ⟨_, List.getElem_mem _, by rw [← e]⟩

-- 
set_option maxHeartbeats 1000000 in
theorem variant_abs (W : World) (a b : Tm) (ha : a.rng) (hb : b.rng) (hok : a.ok) (has : a.size ≤ 60) (hbs : b.size ≤ 1000000) : AFun Try.prog W 23 [a.cw, b.cw] (.val (.b (vntB a b))) := by
  refine afun_of (rs := [.b (vntB a b)]) Try.func23 Try.ntmps23 rfl rfl rfl rfl ?_
  intro w U hW
  have hV1 := vars_abs w ha (by omega)
  have hV2 := vars_abs w hb (by omega)
  rw [nv_vars] at hV1 hV2
  have hnl := nv_len a
  have hnb := nv_len b
  refine awp_seq (awp_region ?_)
  (refine ⟨_, _, _, a_box (gd_none rfl) rfl rfl rfl rfl rfl, (by first | rfl | kernel_rfl), ?_⟩)
  (refine ⟨_, _, _, a_box (gd_none rfl) rfl rfl rfl rfl rfl, (by first | rfl | kernel_rfl), ?_⟩)
  (refine ⟨_, _, _, a_assign (gd_none rfl) rfl rfl rfl rfl rfl, (by first | rfl | kernel_rfl), ?_⟩)
  show AWp _ _ _ _ _ _ _
  refine awp_seq (awp_draw (by kernel_rfl) (by kernel_rfl) ?_)
  (first | (refine ⟨_, _, _, a_load_all (gd_none rfl) rfl rfl rfl rfl rfl rfl rfl rfl rfl rfl rfl rfl, (by first | rfl | kernel_rfl), ?_⟩) | (refine ⟨_, _, _, a_load_tok (gd_none rfl) rfl rfl rfl rfl rfl rfl rfl rfl rfl rfl rfl rfl rfl, (by first | rfl | kernel_rfl), ?_⟩) | (refine ⟨_, _, _, a_load_bp (gd_none rfl) rfl rfl rfl rfl rfl rfl rfl rfl rfl rfl rfl rfl, (by first | rfl | kernel_rfl), ?_⟩) | (refine ⟨_, _, _, a_load_ad (gd_none rfl) rfl rfl rfl rfl rfl rfl rfl rfl rfl, (by first | rfl | kernel_rfl), ?_⟩) | (refine ⟨_, _, _, a_load_ptr (gd_none rfl) rfl rfl rfl rfl rfl rfl rfl rfl rfl, (by first | rfl | kernel_rfl), ?_⟩) | (refine ⟨_, _, _, a_load_fld (gd_none rfl) rfl rfl rfl rfl rfl rfl rfl rfl rfl rfl rfl rfl rfl, (by first | rfl | kernel_rfl), ?_⟩) | (refine ⟨_, _, _, a_load_fullv (gd_none rfl) rfl rfl rfl rfl rfl rfl rfl rfl rfl, (by first | rfl | kernel_rfl), ?_⟩))
  (refine ⟨_, _, _, a_call (gd_none rfl) rfl rfl rfl rfl rfl (hV1), (by first | rfl | kernel_rfl), ?_⟩)
  (first | (refine ⟨_, _, _, a_load_all (gd_none rfl) rfl rfl rfl rfl rfl rfl rfl rfl rfl rfl rfl rfl, (by first | rfl | kernel_rfl), ?_⟩) | (refine ⟨_, _, _, a_load_tok (gd_none rfl) rfl rfl rfl rfl rfl rfl rfl rfl rfl rfl rfl rfl rfl, (by first | rfl | kernel_rfl), ?_⟩) | (refine ⟨_, _, _, a_load_bp (gd_none rfl) rfl rfl rfl rfl rfl rfl rfl rfl rfl rfl rfl rfl, (by first | rfl | kernel_rfl), ?_⟩) | (refine ⟨_, _, _, a_load_ad (gd_none rfl) rfl rfl rfl rfl rfl rfl rfl rfl rfl, (by first | rfl | kernel_rfl), ?_⟩) | (refine ⟨_, _, _, a_load_ptr (gd_none rfl) rfl rfl rfl rfl rfl rfl rfl rfl rfl, (by first | rfl | kernel_rfl), ?_⟩) | (refine ⟨_, _, _, a_load_fld (gd_none rfl) rfl rfl rfl rfl rfl rfl rfl rfl rfl rfl rfl rfl rfl, (by first | rfl | kernel_rfl), ?_⟩) | (refine ⟨_, _, _, a_load_fullv (gd_none rfl) rfl rfl rfl rfl rfl rfl rfl rfl rfl, (by first | rfl | kernel_rfl), ?_⟩))
  (refine ⟨_, _, _, a_call (gd_none rfl) rfl rfl rfl rfl rfl (hV2), (by first | rfl | kernel_rfl), ?_⟩)
  (refine ⟨_, _, _, a_assign (gd_none rfl) rfl rfl rfl rfl rfl, (by first | rfl | kernel_rfl), ?_⟩)
  (refine ⟨_, _, _, a_assign (gd_none rfl) rfl rfl rfl rfl rfl, (by first | rfl | kernel_rfl), ?_⟩)
  refine ⟨by kernel_rfl, ?_⟩
  show AWp _ _ _ _ _ _ _
  have hur := nv_rng hb
  unfold vntB
  obtain ⟨l, hl⟩ : ∃ l, l = a.nv := ⟨_, rfl⟩
  obtain ⟨m, hm⟩ : ∃ m, m = b.nv := ⟨_, rfl⟩
  rw [← hl] at hnl ⊢
  rw [← hm] at hnb hur ⊢
  have hsz := ints_size l
  have hsm := ints_size m
  refine awp_seq (awp_seq (awp_region ?_))
  (refine ⟨_, _, _, a_move (gd_none rfl) rfl rfl rfl rfl rfl, (by first | rfl | kernel_rfl), ?_⟩)
  (first | (refine ⟨_, _, _, a_len (gd_none rfl) rfl rfl rfl rfl rfl rfl rfl, (by first | rfl | kernel_rfl), ?_⟩) | (refine ⟨_, _, _, a_lenM (gd_none rfl) rfl rfl rfl rfl rfl rfl rfl, (by first | rfl | kernel_rfl), ?_⟩))
  (refine ⟨_, _, _, a_move (gd_none rfl) rfl rfl rfl rfl rfl, (by first | rfl | kernel_rfl), ?_⟩)
  (first | (refine ⟨_, _, _, a_len (gd_none rfl) rfl rfl rfl rfl rfl rfl rfl, (by first | rfl | kernel_rfl), ?_⟩) | (refine ⟨_, _, _, a_lenM (gd_none rfl) rfl rfl rfl rfl rfl rfl rfl, (by first | rfl | kernel_rfl), ?_⟩))
  (first | (refine ⟨_, _, _, a_neq (gd_none rfl) rfl rfl rfl rfl rfl rfl, (by first | rfl | kernel_rfl), ?_⟩) | (refine ⟨_, _, _, a_bne (gd_none rfl) rfl rfl rfl rfl rfl rfl rfl, (by first | rfl | kernel_rfl), ?_⟩))
  show AWp _ _ _ _ _ _ _
  refine awp_cond rfl (fun hc => ?_) (fun hc => awp_skip ?_)
  · have hne : ¬ l.length = m.length := by
      simp only [List.length_map] at hc
      simp at hc
      omega
    rw [show decide (l.length = m.length) = false by simpa using hne, Bool.false_and]
    refine awp_seq (awp_region ?_)
    (refine ⟨_, _, _, a_assign (gd_none rfl) rfl rfl rfl rfl rfl, (by first | rfl | kernel_rfl), ?_⟩)
    show AWp _ _ _ _ _ _ _
    exact awp_ret (And.intro (.inr rfl) rfl)
  have he : l.length = m.length := by
    simp only [List.length_map] at hc
    simp at hc
    omega
  clear hc
  rw [show decide (l.length = m.length) = true by simpa using he, Bool.true_and]
  obtain ⟨z, hz⟩ : ∃ z, z = zipB l m := ⟨_, rfl⟩
  have hzl : z.length = l.length := by rw [hz]; exact zip_len he
  have hzz := fun k => Bd.size_all (z.take k)
  have hzo : bdsOk z := fun x hx => by
    rw [hz] at hx
    obtain ⟨u, hu, e⟩ := zip_mem hx
    rw [e]
    exact ⟨varT_rng (hur u hu).1 (hur u hu).2, by rw [varT_size]; omega⟩
  rw [← hz]
  show AWp _ _ _ _ _ _ _
  refine awp_seq (awp_region ?_)
  (refine ⟨_, _, _, a_assign (gd_none rfl) rfl rfl rfl rfl rfl, (by first | rfl | kernel_rfl), ?_⟩)
  show AWp _ _ _ _ _ _ _
  refine awp_seq (awp_seq (awp_region ?_))
  (refine ⟨_, _, _, a_move (gd_none rfl) rfl rfl rfl rfl rfl, (by first | rfl | kernel_rfl), ?_⟩)
  (first | (refine ⟨_, _, _, a_len (gd_none rfl) rfl rfl rfl rfl rfl rfl rfl, (by first | rfl | kernel_rfl), ?_⟩) | (refine ⟨_, _, _, a_lenM (gd_none rfl) rfl rfl rfl rfl rfl rfl rfl, (by first | rfl | kernel_rfl), ?_⟩))
  (refine ⟨_, _, _, a_move (gd_none rfl) rfl rfl rfl rfl rfl, (by first | rfl | kernel_rfl), ?_⟩)
  show AWp _ _ _ _ _ _ _
  refine awp_block (awp_count l.length (fun k => [(2, .bp 2 0 []), (100002, .bx a.cw), (3, .bp 3 0 []), (100003, .bx b.cw), (6, .val (.lst (m.map CV.i))), (7, .own (.lst ((z.take k).map Bd.cv)) 200035), (200035, .tok 60 3), (19, .val (.lst (l.map CV.i))), (20, .val (.i (l.map CV.i).length)), (21, .val (.i k))])
    ((wk_nil 7 200035 60 3 rfl rfl rfl rfl rfl rfl rfl).trans (wk_sub ⟨rfl, rfl, rfl, rfl, rfl, rfl, rfl, rfl, rfl, rfl, trivial⟩)) ?_)
  intro k hk
  refine awp_seq (awp_region ?_)
  (refine ⟨_, _, _, a_lss (gd_none rfl) rfl rfl rfl rfl rfl rfl, (by first | rfl | kernel_rfl), ?_⟩)
  show AWp _ _ _ _ _ _ _
  refine awp_seq (awp_cond rfl (fun hc => awp_skip ?_) (fun hc => awp_exit ?_))
  · have hkl : k < l.length := by
      simp only [List.length_map, decide_eq_true_eq] at hc
      omega
    clear hc
    obtain ⟨v, hv⟩ : ∃ v, l[k]? = some v := ⟨l[k], List.getElem?_eq_getElem hkl⟩
    obtain ⟨u, hu⟩ : ∃ u, m[k]? = some u := ⟨m[k], List.getElem?_eq_getElem (by omega)⟩
    have hv' := ints_at hv
    have hu' := ints_at hu
    have hub := hur u (List.mem_of_getElem? hu)
    have hzk : z[k]? = some ⟨v, varT u⟩ := by rw [hz]; exact zip_at hv hu
    show AWp _ _ _ _ _ _ _
    refine awp_seq (awp_block (awp_seq (awp_region ?_)))
    (refine ⟨_, _, _, a_move (gd_none rfl) rfl rfl rfl rfl rfl, (by first | rfl | kernel_rfl), ?_⟩)
    (refine ⟨_, _, _, a_index (gd_none rfl) rfl rfl rfl rfl rfl rfl rfl rfl rfl (by assumption) rfl (by first | assumption | exact szAll_spec rfl | exact Tm.size_all _ | exact Bd.size_all _ | exact ints_size _), (by first | rfl | kernel_rfl), ?_⟩)
    (first | (refine ⟨_, _, _, a_load_all (gd_none rfl) rfl rfl rfl rfl rfl rfl rfl rfl rfl rfl rfl rfl, (by first | rfl | kernel_rfl), ?_⟩) | (refine ⟨_, _, _, a_load_tok (gd_none rfl) rfl rfl rfl rfl rfl rfl rfl rfl rfl rfl rfl rfl rfl, (by first | rfl | kernel_rfl), ?_⟩) | (refine ⟨_, _, _, a_load_bp (gd_none rfl) rfl rfl rfl rfl rfl rfl rfl rfl rfl rfl rfl rfl, (by first | rfl | kernel_rfl), ?_⟩) | (refine ⟨_, _, _, a_load_ad (gd_none rfl) rfl rfl rfl rfl rfl rfl rfl rfl rfl, (by first | rfl | kernel_rfl), ?_⟩) | (refine ⟨_, _, _, a_load_ptr (gd_none rfl) rfl rfl rfl rfl rfl rfl rfl rfl rfl, (by first | rfl | kernel_rfl), ?_⟩) | (refine ⟨_, _, _, a_load_fld (gd_none rfl) rfl rfl rfl rfl rfl rfl rfl rfl rfl rfl rfl rfl rfl, (by first | rfl | kernel_rfl), ?_⟩) | (refine ⟨_, _, _, a_load_fullv (gd_none rfl) rfl rfl rfl rfl rfl rfl rfl rfl rfl, (by first | rfl | kernel_rfl), ?_⟩))
    (refine ⟨_, _, _, a_assign (gd_none rfl) rfl rfl rfl rfl rfl, (by first | rfl | kernel_rfl), ?_⟩)
    (refine ⟨_, _, _, a_assign (gd_none rfl) rfl rfl rfl rfl rfl, (by first | rfl | kernel_rfl), ?_⟩)
    show AWp _ _ _ _ _ _ _
    refine awp_region ?_
    (refine ⟨_, _, _, a_move (gd_none rfl) rfl rfl rfl rfl rfl, (by first | rfl | kernel_rfl), ?_⟩)
    (refine ⟨_, _, _, a_move (gd_none rfl) rfl rfl rfl rfl rfl, (by first | rfl | kernel_rfl), ?_⟩)
    (refine ⟨_, _, _, a_move (gd_none rfl) rfl rfl rfl rfl rfl, (by first | rfl | kernel_rfl), ?_⟩)
    (refine ⟨_, _, _, a_move (gd_none rfl) rfl rfl rfl rfl rfl, (by first | rfl | kernel_rfl), ?_⟩)
    (refine ⟨_, _, _, a_index (gd_none rfl) rfl rfl rfl rfl rfl rfl rfl rfl rfl (by assumption) rfl (by first | assumption | exact szAll_spec rfl | exact Tm.size_all _ | exact Bd.size_all _ | exact ints_size _), (by first | rfl | kernel_rfl), ?_⟩)
    (first | (refine ⟨_, _, _, a_load_all (gd_none rfl) rfl rfl rfl rfl rfl rfl rfl rfl rfl rfl rfl rfl, (by first | rfl | kernel_rfl), ?_⟩) | (refine ⟨_, _, _, a_load_tok (gd_none rfl) rfl rfl rfl rfl rfl rfl rfl rfl rfl rfl rfl rfl rfl, (by first | rfl | kernel_rfl), ?_⟩) | (refine ⟨_, _, _, a_load_bp (gd_none rfl) rfl rfl rfl rfl rfl rfl rfl rfl rfl rfl rfl rfl, (by first | rfl | kernel_rfl), ?_⟩) | (refine ⟨_, _, _, a_load_ad (gd_none rfl) rfl rfl rfl rfl rfl rfl rfl rfl rfl, (by first | rfl | kernel_rfl), ?_⟩) | (refine ⟨_, _, _, a_load_ptr (gd_none rfl) rfl rfl rfl rfl rfl rfl rfl rfl rfl, (by first | rfl | kernel_rfl), ?_⟩) | (refine ⟨_, _, _, a_load_fld (gd_none rfl) rfl rfl rfl rfl rfl rfl rfl rfl rfl rfl rfl rfl rfl, (by first | rfl | kernel_rfl), ?_⟩) | (refine ⟨_, _, _, a_load_fullv (gd_none rfl) rfl rfl rfl rfl rfl rfl rfl rfl rfl, (by first | rfl | kernel_rfl), ?_⟩))
    (refine ⟨_, _, _, a_call (gd_none rfl) rfl rfl rfl rfl rfl (sVariable_abs w u hub.1 hub.2), (by first | rfl | kernel_rfl), ?_⟩)
    (refine ⟨_, _, _, a_build (gd_none rfl) rfl rfl rfl rfl rfl rfl rfl rfl rfl rfl rfl, (by first | rfl | kernel_rfl), ?_⟩)
    (refine ⟨_, _, _, a_bslice (gd_none rfl) rfl rfl rfl rfl rfl rfl rfl rfl rfl rfl rfl rfl rfl, (by first | rfl | kernel_rfl), ?_⟩)
    (first | (refine ⟨_, _, _, a_app (gd_none rfl) rfl rfl rfl rfl rfl rfl rfl rfl rfl rfl rfl rfl rfl rfl rfl (by first | assumption | exact szAll_spec rfl | exact Tm.size_all _ | exact Bd.size_all _ | exact ints_size _) (by first | assumption | exact szAll_spec rfl | exact Tm.size_all _ | exact Bd.size_all _ | exact ints_size _) (by first | omega | (simp only [List.length_map, List.length_append, List.length_cons, List.length_nil] <;> omega) | (simp <;> omega)), (by first | rfl | kernel_rfl), ?_⟩) | (refine ⟨_, _, _, a_app_nil (gd_none rfl) rfl rfl rfl rfl rfl rfl rfl rfl rfl rfl rfl (by first | assumption | exact szAll_spec rfl | exact Tm.size_all _ | exact Bd.size_all _ | exact ints_size _) (by first | assumption | exact szAll_spec rfl | exact Tm.size_all _ | exact Bd.size_all _ | exact ints_size _) (by first | omega | (simp only [List.length_map, List.length_append, List.length_cons, List.length_nil] <;> omega) | (simp <;> omega)), (by first | rfl | kernel_rfl), ?_⟩))
    (refine ⟨_, _, _, a_assign (gd_none rfl) rfl rfl rfl rfl rfl, (by first | rfl | kernel_rfl), ?_⟩)
    show AWp _ _ _ _ _ _ _
    refine awp_region ?_
    (refine ⟨_, _, _, a_add (gd_none rfl) rfl rfl rfl rfl rfl rfl (by first | omega | (simp only [List.length_map, List.length_append, List.length_cons, List.length_nil] <;> omega) | (simp <;> omega)), (by first | rfl | kernel_rfl), ?_⟩)
    (refine ⟨_, _, _, a_move (gd_none rfl) rfl rfl rfl rfl rfl, (by first | rfl | kernel_rfl), ?_⟩)
    refine ⟨hkl, Wk.trans (wk_sub (s' := [(2, .bp 2 0 []), (100002, .bx a.cw), (3, .bp 3 0 []), (100003, .bx b.cw), (6, .val (.lst (m.map CV.i))), (7, .own (.lst ((z.take (k + 1)).map Bd.cv)) 300035), (300035, .tok 60 3), (19, .val (.lst (l.map CV.i))), (20, .val (.i (l.map CV.i).length)), (21, .val (.i ((k + 1 : Nat) : Int)))]) ⟨rfl, rfl, rfl, rfl, rfl, ?_, rfl, rfl, rfl, rfl, trivial⟩) (wk_ren 300035 200035 rfl rfl rfl rfl)⟩
    rw [List.take_add_one, hzk, List.map_append]
    rfl
  · have hkl : k = z.length := by
      simp only [List.length_map, decide_eq_false_iff_not] at hc
      omega
    subst hkl
    rw [List.take_length]
    show AWp _ _ _ _ _ _ _
    refine awp_seq (awp_draw (by kernel_rfl) (by kernel_rfl) ?_)
    (refine ⟨_, _, _, a_move (gd_none rfl) rfl rfl rfl rfl rfl, (by first | rfl | kernel_rfl), ?_⟩)
    (first | (refine ⟨_, _, _, a_load_all (gd_none rfl) rfl rfl rfl rfl rfl rfl rfl rfl rfl rfl rfl rfl, (by first | rfl | kernel_rfl), ?_⟩) | (refine ⟨_, _, _, a_load_tok (gd_none rfl) rfl rfl rfl rfl rfl rfl rfl rfl rfl rfl rfl rfl rfl, (by first | rfl | kernel_rfl), ?_⟩) | (refine ⟨_, _, _, a_load_bp (gd_none rfl) rfl rfl rfl rfl rfl rfl rfl rfl rfl rfl rfl rfl, (by first | rfl | kernel_rfl), ?_⟩) | (refine ⟨_, _, _, a_load_ad (gd_none rfl) rfl rfl rfl rfl rfl rfl rfl rfl rfl, (by first | rfl | kernel_rfl), ?_⟩) | (refine ⟨_, _, _, a_load_ptr (gd_none rfl) rfl rfl rfl rfl rfl rfl rfl rfl rfl, (by first | rfl | kernel_rfl), ?_⟩) | (refine ⟨_, _, _, a_load_fld (gd_none rfl) rfl rfl rfl rfl rfl rfl rfl rfl rfl rfl rfl rfl rfl, (by first | rfl | kernel_rfl), ?_⟩) | (refine ⟨_, _, _, a_load_fullv (gd_none rfl) rfl rfl rfl rfl rfl rfl rfl rfl rfl, (by first | rfl | kernel_rfl), ?_⟩))
    (refine ⟨_, _, _, a_call (gd_none rfl) rfl rfl rfl rfl rfl (apply_abs w z a (by omega) hzo ha hok), (by first | rfl | kernel_rfl), ?_⟩)
    (first | (refine ⟨_, _, _, a_load_all (gd_none rfl) rfl rfl rfl rfl rfl rfl rfl rfl rfl rfl rfl rfl, (by first | rfl | kernel_rfl), ?_⟩) | (refine ⟨_, _, _, a_load_tok (gd_none rfl) rfl rfl rfl rfl rfl rfl rfl rfl rfl rfl rfl rfl rfl, (by first | rfl | kernel_rfl), ?_⟩) | (refine ⟨_, _, _, a_load_bp (gd_none rfl) rfl rfl rfl rfl rfl rfl rfl rfl rfl rfl rfl rfl, (by first | rfl | kernel_rfl), ?_⟩) | (refine ⟨_, _, _, a_load_ad (gd_none rfl) rfl rfl rfl rfl rfl rfl rfl rfl rfl, (by first | rfl | kernel_rfl), ?_⟩) | (refine ⟨_, _, _, a_load_ptr (gd_none rfl) rfl rfl rfl rfl rfl rfl rfl rfl rfl, (by first | rfl | kernel_rfl), ?_⟩) | (refine ⟨_, _, _, a_load_fld (gd_none rfl) rfl rfl rfl rfl rfl rfl rfl rfl rfl rfl rfl rfl rfl, (by first | rfl | kernel_rfl), ?_⟩) | (refine ⟨_, _, _, a_load_fullv (gd_none rfl) rfl rfl rfl rfl rfl rfl rfl rfl rfl, (by first | rfl | kernel_rfl), ?_⟩))
    (refine ⟨_, _, _, a_call (gd_none rfl) rfl rfl rfl rfl rfl (same_abs w (repT_rng ha fun v h1 h2 => (imgB_ok hzo h1 h2).1) hb), (by first | rfl | kernel_rfl), ?_⟩)
    (refine ⟨_, _, _, a_assign (gd_none rfl) rfl rfl rfl rfl rfl, (by first | rfl | kernel_rfl), ?_⟩)
    refine ⟨by kernel_rfl, ?_⟩
    show AWp _ _ _ _ _ _ _
    exact awp_ret (And.intro (.inr rfl) rfl)

def alikeB (p q : List Bd) (l : List Int) : Bool := l.all fun v => sameT (imgB p v) (imgB q v)
end Go.Proofs.Ytgmllfjidhbjjab
