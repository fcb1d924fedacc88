/-
  The law UnifyMost.
-/
import Derived.Test.YtiammidklcjelabMg9
import Derived.Test.YtiammidklcjelabAbShp
namespace Go.Proofs.Ytiammidklcjelab
open Go.RowKit
set_option linter.unusedVariables false
set_option linter.unusedSimpArgs false
set_option maxRecDepth 100000

theorem find_srt : ∀ {L : List Bd}, L.Pairwise (fun x y => x.v < y.v) → ∀ b ∈ L, findB L b.v = some b.t
  | [], _, b, hb => by cases hb
  | a :: L, hp, b, hb => by
    obtain ⟨p1, p2⟩ := List.pairwise_cons.1 hp
    rw [findB]
    rcases List.mem_cons.1 hb with rfl | hb
    · rw [if_pos rfl]
    · rw [if_neg (by have := p1 b hb; omega)]
      exact find_srt p2 b hb
theorem srt_nodup {L : List Bd} (h : L.Pairwise (fun x y => x.v < y.v)) : (L.map Bd.v).Nodup := List.pairwise_map.2 (h.imp fun h => by omega)
theorem imgB_none {L : List Bd} {v : Int} (h : v ∉ L.map Bd.v) : imgB L v = varT v := by
  unfold imgB
  rw [findB_none fun b hb e => h (List.mem_map.2 ⟨b, hb, e⟩)]
  rfl
theorem nodup_map_of {α : Type} {f : α → Int} : ∀ {l : List α}, (∀ x ∈ l, ∀ y ∈ l, f x = f y → x = y) → l.Nodup → (l.map f).Nodup
  | [], _, _ => List.nodup_nil
  | x :: l, hf, hn => by
    obtain ⟨h1, h2⟩ := List.nodup_cons.1 hn
    rw [List.map_cons, List.nodup_cons]
    refine ⟨fun hm => ?_, nodup_map_of (fun a ha b hb => hf a (List.mem_cons_of_mem _ ha) b (List.mem_cons_of_mem _ hb)) h2⟩
    obtain ⟨y, hy, e⟩ := List.mem_map.1 hm
    have := hf x (by simp) y (List.mem_cons_of_mem _ hy) e.symm
    exact h1 (this ▸ hy)
theorem few_bound {s u : List Bd} {E : List (Tm × Tm)} (hm : Mgu (imgB s) E) (hs : s.Pairwise (fun x y => x.v < y.v)) (hp : ∀ b ∈ s, 0 ≤ b.v) (hb : bareB s) (hid : ∀ b ∈ s, b.t ≠ varT b.v) (hu : uni (imgB u) E) : s.length ≤ 2 * u.length := by
  obtain ⟨Dm, hD⟩ : ∃ Dm, Dm = u.map Bd.v := ⟨_, rfl⟩
  have hDl : Dm.length = u.length := by rw [hD, List.length_map]
  have hnd : s.Nodup := hs.imp fun h e => by rw [e] at h; omega
  have hin : ∀ b ∈ s, imgB s b.v = b.t := fun b hbm => by unfold imgB; rw [find_srt hs b hbm]; rfl
  have hv : ∀ b ∈ s, b.v ∉ Dm → ∃ w, b.t = varT w ∧ w ∈ Dm ∧ (imgB u w).strip = varT b.v := fun b hbm hn => by
    have h0 := hp b hbm
    have h1 := hm.most (imgB u) hu b.v h0
    rw [hin b hbm, imgB_none (by rw [← hD]; exact hn), varT_strip] at h1
    have hf : b.t.f < 0 := var_of_rep (τ := imgB u) (by rw [h1, varT_f]; omega)
    obtain ⟨w, hw⟩ : ∃ w, w = -1 - b.t.f := ⟨_, rfl⟩
    have hw0 : 0 ≤ w := by omega
    have hbt : b.t = varT w := by rw [hw]; exact bare_var (hb b hbm) hf
    rw [hbt, rep_varT hw0] at h1
    refine ⟨w, hbt, Decidable.byContradiction fun hwD => ?_, h1⟩
    rw [imgB_none (by rw [← hD]; exact hwD), varT_strip] at h1
    have := varT_inj h1
    rw [this] at hbt
    exact hid b hbm hbt
  have hA := nodup_sub_len (l := (s.filter fun b => decide (b.v ∈ Dm)).map Bd.v) (m := Dm) (nodup_map_of (fun x hx y hy e => by
      have hx := (List.mem_filter.1 hx).1
      have hy := (List.mem_filter.1 hy).1
      have h1 := hin x hx
      have h2 := hin y hy
      rw [e, h2] at h1
      cases x; cases y
      simp only at e h1
      rw [e, h1]) (hnd.filter _)) (fun v hv => by
      obtain ⟨b, hbm, rfl⟩ := List.mem_map.1 hv
      exact of_decide_eq_true (List.mem_filter.1 hbm).2)
  have hB := nodup_sub_len (l := (s.filter fun b => !decide (b.v ∈ Dm)).map fun b => -1 - b.t.f) (m := Dm) (nodup_map_of (fun x hx y hy e => by
      obtain ⟨hx, hx2⟩ := List.mem_filter.1 hx
      obtain ⟨hy, hy2⟩ := List.mem_filter.1 hy
      obtain ⟨w, e1, _, e2⟩ := hv x hx (by simpa using hx2)
      obtain ⟨w', e3, _, e4⟩ := hv y hy (by simpa using hy2)
      rw [e1, e3, varT_f, varT_f] at e
      have hww : w = w' := by omega
      rw [hww, e4] at e2
      have hvv := varT_inj e2
      cases x; cases y
      simp only at e1 e3 hvv
      rw [hvv, e1, e3, hww]) (hnd.filter _)) (fun v hv' => by
      obtain ⟨b, hbm, rfl⟩ := List.mem_map.1 hv'
      obtain ⟨hbm, hb2⟩ := List.mem_filter.1 hbm
      obtain ⟨w, e1, hw, _⟩ := hv b hbm (by simpa using hb2)
      rw [e1, varT_f, show -1 - (-1 - w) = w by omega]
      exact hw)
  rw [List.length_map] at hA hB
  have hsum : s.length = (s.filter fun b => decide (b.v ∈ Dm)).length + (s.filter fun b => !decide (b.v ∈ Dm)).length := by
    have : ∀ l : List Bd, l.length = (l.filter fun b => decide (b.v ∈ Dm)).length + (l.filter fun b => !decide (b.v ∈ Dm)).length := fun l => by
      induction l with
      | nil => rfl
      | cons x l ih =>
        rw [List.filter_cons, List.filter_cons, List.length_cons]
        by_cases hx : x.v ∈ Dm
        · simp only [hx, decide_true, Bool.not_true, if_true, List.length_cons]
          simp only [Bool.false_eq_true, if_false]
          omega
        · simp only [hx, decide_false, Bool.not_false, if_true, List.length_cons]
          simp only [Bool.false_eq_true, if_false]
          omega
    exact this s
  omega
theorem fine8_facts {l : List Bd} (h : fine7B l = true) : l.length ≤ 8 ∧ (∀ b ∈ l, 0 ≤ b.v) ∧ ∀ b ∈ l, b.t.rng ∧ b.t.ok ∧ b.t.size ≤ 20 := by
  unfold fine7B at h
  rw [Bool.and_eq_true, List.all_eq_true, decide_eq_true_eq] at h
  obtain ⟨h1, h2⟩ := h
  have hf : ∀ b ∈ l, 0 ≤ b.v ∧ 0 ≤ smallT b.t 20 10 := fun b hb => by
    have := h1 b hb
    unfold fineBd at this
    simp only [Bool.and_eq_true, decide_eq_true_eq] at this
    exact ⟨this.1, this.2.2⟩
  refine ⟨h2, fun b hb => (hf b hb).1, fun b hb => ?_⟩
  have hsm := small_sm b.t _ _ (hf b hb).2
  have h9 := (hf b hb).2
  have hwt : b.t.wt ≤ 20 := by have := (small_bounds b.t 20 10 (by decide)).2.2 h9; omega
  exact ⟨Tm.sm_rng hsm, Tm.wt_ok (t := b.t) (by omega), Nat.le_trans b.t.size_wt hwt⟩
theorem norm_ok8 {L : List Bd} (h : bdsOk L) : bdsOk (normF L) := fun b hb => by
  unfold normF at hb
  obtain ⟨c, hc, rfl⟩ := List.mem_map.1 hb
  have hcL := firstsF_mem (List.mem_filter.1 hc).1
  exact ⟨Tm.strip_rng (h c hcL).1, by show c.t.strip.size ≤ _; rw [Tm.strip_size]; exact (h c hcL).2⟩
theorem norm_nid {L : List Bd} : ∀ b ∈ normF L, 0 ≤ b.v → b.t ≠ varT b.v := fun b hb h0 e => by
  unfold normF at hb
  obtain ⟨c, hc, rfl⟩ := List.mem_map.1 hb
  have hi := (List.mem_filter.1 hc).2
  have e : c.t.strip = varT c.v := e
  have h0 : 0 ≤ c.v := h0
  have ef : c.t.f = -1 - c.v := by rw [← Tm.strip_f, e, varT_f]
  have : idleB c = true := by
    show (decide (c.t.f < 0) && decide (-1 - c.t.f = c.v)) = true
    rw [decide_eq_true (by omega), decide_eq_true (by omega)]; rfl
  rw [this] at hi
  cases hi

-- 
set_option maxHeartbeats 8000000 in
theorem unifyMost_abs (W : World) (a b : Tm) (u : List Bd) (ha : a.rng) (hb : b.rng) (hur : ∀ x ∈ u, x.t.rng) (hul : u.length ≤ 9223372036854775807) : AFun Try.prog W 3 [a.cw, b.cw, .lst (u.map Bd.cv)] (.val (.b true)) := by
  refine afun_of (rs := [.b true]) Try.func3 Try.ntmps3 rfl rfl rfl rfl ?_
  intro w U hW
  refine aS (aR ?_)
  (refine nx (a_box (gN rfl) rfl rfl rfl rfl rfl) rfl ?_)
  (refine nx (a_box (gN rfl) rfl rfl rfl rfl rfl) rfl ?_)
  (refine nx (aA (gN rfl) rfl rfl rfl rfl rfl) rfl ?_)
  show AWp _ _ _ _ _ _ _
  refine aS (aS (aR ?_))
  (refine nx (a_call (gN rfl) rfl rfl rfl rfl rfl (alive8_abs w)) rfl ?_)
  (refine nx (a_not (gN rfl) rfl rfl rfl rfl rfl) rfl ?_)
  show AWp _ _ _ _ _ _ _
  refine aC rfl (fun hc => by cases hc) (fun _ => aK ?_)
  show AWp _ _ _ _ _ _ _
  have ht := tiny2_abs w ha hb
  have hf := fine7_abs w u hul hur
  cases hT : tinyB [a, b] with
  | false =>
    rw [hT] at ht
    refine aS (aS (aR ?_))
    (refine nx (aL (gN rfl) rfl rfl rfl rfl rfl rfl rfl rfl rfl rfl rfl rfl) rfl ?_)
    (refine nx (aL (gN rfl) rfl rfl rfl rfl rfl rfl rfl rfl rfl rfl rfl rfl) rfl ?_)
    (refine nx (a_bslice (gN rfl) rfl rfl rfl rfl rfl rfl rfl rfl rfl rfl rfl rfl rfl) rfl ?_)
    (refine nx (a_call (gN rfl) rfl rfl rfl rfl rfl (ht)) rfl ?_)
    (refine nx (a_not (gN rfl) rfl rfl rfl rfl rfl) rfl ?_)
    (refine nx (aM (gN rfl) rfl rfl rfl rfl rfl) rfl ?_)
    (refine ⟨_, _, _, a_off (go_off rfl rfl rfl rfl (by first | rfl | assumption | (simp; done) | (simp [*]; done))) rfl rfl rfl, rfl, ?_⟩)
    (refine ⟨_, _, _, a_off (go_off rfl rfl rfl rfl (by first | rfl | assumption | (simp; done) | (simp [*]; done))) rfl rfl rfl, rfl, ?_⟩)
    (refine ⟨_, _, _, a_off (go_off rfl rfl rfl rfl (by first | rfl | assumption | (simp; done) | (simp [*]; done))) rfl rfl rfl, rfl, ?_⟩)
    (refine ⟨_, _, _, aPt (gN rfl) rfl rfl rfl rfl rfl ?hb rfl, rfl, ?_⟩; case hb => (first | rfl | assumption | (simp; done)))
    (refine nx (aM (gN rfl) rfl rfl rfl rfl rfl) rfl ?_)
    (refine ⟨_, _, _, a_off (go_off rfl rfl rfl rfl (by first | rfl | assumption | (simp; done) | (simp [*]; done))) rfl rfl rfl, rfl, ?_⟩)
    (refine ⟨_, _, _, a_off (go_off rfl rfl rfl rfl (by first | rfl | assumption | (simp; done) | (simp [*]; done))) rfl rfl rfl, rfl, ?_⟩)
    (refine ⟨_, _, _, a_off (go_off rfl rfl rfl rfl (by first | rfl | assumption | (simp; done) | (simp [*]; done))) rfl rfl rfl, rfl, ?_⟩)
    (refine ⟨_, _, _, aPt (gN rfl) rfl rfl rfl rfl rfl ?hb rfl, rfl, ?_⟩; case hb => (first | rfl | assumption | (simp; done)))
    show AWp _ _ _ _ _ _ _
    refine aC rfl (fun hc => ?_) (fun hc => by cases hc)
    refine aS (aR ?_)
    (refine nx (aA (gN rfl) rfl rfl rfl rfl rfl) rfl ?_)
    show AWp _ _ _ _ _ _ _
    exact aT (And.intro (.inr rfl) rfl)
  | true =>
  rw [hT] at ht
  cases hF : fine7B u with
  | false =>
    rw [hF] at hf
    refine aS (aS (aR ?_))
    (refine nx (aL (gN rfl) rfl rfl rfl rfl rfl rfl rfl rfl rfl rfl rfl rfl) rfl ?_)
    (refine nx (aL (gN rfl) rfl rfl rfl rfl rfl rfl rfl rfl rfl rfl rfl rfl) rfl ?_)
    (refine nx (a_bslice (gN rfl) rfl rfl rfl rfl rfl rfl rfl rfl rfl rfl rfl rfl rfl) rfl ?_)
    (refine nx (a_call (gN rfl) rfl rfl rfl rfl rfl (ht)) rfl ?_)
    (refine nx (a_not (gN rfl) rfl rfl rfl rfl rfl) rfl ?_)
    (refine nx (aM (gN rfl) rfl rfl rfl rfl rfl) rfl ?_)
    (refine nx (aM (gd_on rfl rfl rfl rfl (by first | rfl | assumption | (simp; done))) rfl rfl rfl rfl rfl) rfl ?_)
    (refine nx (a_call (gd_on rfl rfl rfl rfl (by first | rfl | assumption | (simp; done))) rfl rfl rfl rfl rfl (hf)) rfl ?_)
    (refine nx (a_not (gd_on rfl rfl rfl rfl (by first | rfl | assumption | (simp; done))) rfl rfl rfl rfl rfl) rfl ?_)
    (refine ⟨_, _, _, aPf (gN rfl) rfl rfl rfl rfl rfl ?hb rfl, rfl, ?_⟩; case hb => (first | rfl | assumption | (simp; done)))
    (refine nx (aM (gN rfl) rfl rfl rfl rfl rfl) rfl ?_)
    (refine ⟨_, _, _, a_off (go_off rfl rfl rfl rfl (by first | rfl | assumption | (simp; done) | (simp [*]; done))) rfl rfl rfl, rfl, ?_⟩)
    (refine ⟨_, _, _, a_off (go_off rfl rfl rfl rfl (by first | rfl | assumption | (simp; done) | (simp [*]; done))) rfl rfl rfl, rfl, ?_⟩)
    (refine ⟨_, _, _, a_off (go_off rfl rfl rfl rfl (by first | rfl | assumption | (simp; done) | (simp [*]; done))) rfl rfl rfl, rfl, ?_⟩)
    (refine ⟨_, _, _, aPt (gN rfl) rfl rfl rfl rfl rfl ?hb rfl, rfl, ?_⟩; case hb => (first | rfl | assumption | (simp; done)))
    show AWp _ _ _ _ _ _ _
    refine aC rfl (fun hc => ?_) (fun hc => by cases hc)
    refine aS (aR ?_)
    (refine nx (aA (gN rfl) rfl rfl rfl rfl rfl) rfl ?_)
    show AWp _ _ _ _ _ _ _
    exact aT (And.intro (.inr rfl) rfl)
  | true =>
  rw [hF] at hf
  refine aS (aS (aR ?_))
  (refine nx (aL (gN rfl) rfl rfl rfl rfl rfl rfl rfl rfl rfl rfl rfl rfl) rfl ?_)
  (refine nx (aL (gN rfl) rfl rfl rfl rfl rfl rfl rfl rfl rfl rfl rfl rfl) rfl ?_)
  (refine nx (a_bslice (gN rfl) rfl rfl rfl rfl rfl rfl rfl rfl rfl rfl rfl rfl rfl) rfl ?_)
  (refine nx (a_call (gN rfl) rfl rfl rfl rfl rfl (ht)) rfl ?_)
  (refine nx (a_not (gN rfl) rfl rfl rfl rfl rfl) rfl ?_)
  (refine nx (aM (gN rfl) rfl rfl rfl rfl rfl) rfl ?_)
  (refine nx (aM (gd_on rfl rfl rfl rfl (by first | rfl | assumption | (simp; done))) rfl rfl rfl rfl rfl) rfl ?_)
  (refine nx (a_call (gd_on rfl rfl rfl rfl (by first | rfl | assumption | (simp; done))) rfl rfl rfl rfl rfl (hf)) rfl ?_)
  (refine nx (a_not (gd_on rfl rfl rfl rfl (by first | rfl | assumption | (simp; done))) rfl rfl rfl rfl rfl) rfl ?_)
  (refine ⟨_, _, _, aPf (gN rfl) rfl rfl rfl rfl rfl ?hb rfl, rfl, ?_⟩; case hb => (first | rfl | assumption | (simp; done)))
  (refine nx (aM (gN rfl) rfl rfl rfl rfl rfl) rfl ?_)
  (refine nx (aM (gd_on rfl rfl rfl rfl (by first | rfl | assumption | (simp; done))) rfl rfl rfl rfl rfl) rfl ?_)
  (refine nx (a_len (gd_on rfl rfl rfl rfl (by first | rfl | assumption | (simp; done))) rfl rfl rfl rfl rfl rfl rfl) rfl ?_)
  (refine nx (a_gtr (gd_on rfl rfl rfl rfl (by first | rfl | assumption | (simp; done))) rfl rfl rfl rfl rfl rfl) rfl ?_)
  (refine ⟨_, _, _, aPf (gN rfl) rfl rfl rfl rfl rfl ?hb rfl, rfl, ?_⟩; case hb => (first | rfl | assumption | (simp; done)))
  show AWp _ _ _ _ _ _ _
  refine aC rfl (fun hc => ?_) (fun hc => ?_)
  · refine aS (aR ?_)
    (refine nx (aA (gN rfl) rfl rfl rfl rfl rfl) rfl ?_)
    show AWp _ _ _ _ _ _ _
    exact aT (And.intro (.inr rfl) rfl)
  have hu4 : u.length ≤ 4 := by
    have := of_decide_eq_false hc
    rw [List.length_map] at this
    omega
  clear hc
  refine aK ?_
  show AWp _ _ _ _ _ _ _
  obtain ⟨_, hu0, huf⟩ := fine8_facts hF
  have huo : bdsOk u := fun x hx => ⟨(huf x hx).1, by have := (huf x hx).2.2; omega⟩
  obtain ⟨sa, sb⟩ := tinyB_two hT
  obtain ⟨hasm, ⟨_, hao⟩, has⟩ := tiny_facts sa
  obtain ⟨hbsm, ⟨_, hbo⟩, hbs⟩ := tiny_facts sb
  obtain ⟨n, r0, _, _, _, htold⟩ := told_of (l := [(a, b)]) (by simp) (tiny2_of sa sb)
  have hnid : ∀ x ∈ (r0.map normF).getD [], 0 ≤ x.v → x.t ≠ varT x.v := fun x hx => by
    cases r0 with
    | none => cases hx
    | some s => exact norm_nid x hx
  obtain ⟨r, hr⟩ : ∃ r : List Bd × Bool, r = ((r0.map normF).getD [], r0.isSome) := ⟨_, rfl⟩
  have hnid : ∀ x ∈ r.1, 0 ≤ x.v → x.t ≠ varT x.v := by rw [hr]; exact hnid
  rw [← hr] at htold
  clear hr ht hT hf
  have hru := uUnify_abs w a b ha hao hb hbo (by omega) r htold.told
  have hap : ∀ t : Tm, t.rng → t.ok → AFun Try.prog w 13 [.lst (r.1.map Bd.cv), t.cw] (.val (repT (imgB r.1) t).cw) := fun t h1 h2 => apply_abs w r.1 t htold.len htold.bdsOk h1 h2
  have hap2 : ∀ t : Tm, t.rng → t.ok → AFun Try.prog w 13 [.lst (u.map Bd.cv), t.cw] (.val (repT (imgB u) t).cw) := fun t h1 h2 => apply_abs w u t (by omega) huo h1 h2
  refine aS (aD (by kernel_rfl) (by kernel_rfl) ?_)
  (refine nx (aL (gN rfl) rfl rfl rfl rfl rfl rfl rfl rfl rfl rfl rfl rfl) rfl ?_)
  (refine nx (a_call (gN rfl) rfl rfl rfl rfl rfl (of_abs w a hao)) rfl ?_)
  (refine nx (aL (gN rfl) rfl rfl rfl rfl rfl rfl rfl rfl rfl rfl rfl rfl) rfl ?_)
  (refine nx (a_call (gN rfl) rfl rfl rfl rfl rfl (of_abs w b hbo)) rfl ?_)
  (refine nx (a_alloc (gN rfl) rfl rfl rfl rfl rfl rfl rfl rfl rfl rfl) rfl ?_)
  (refine nx (a_alloc (gN rfl) rfl rfl rfl rfl rfl rfl rfl rfl rfl rfl) rfl ?_)
  (refine nx (aSt (gN rfl) rfl rfl rfl rfl rfl rfl rfl rfl rfl rfl) rfl ?_)
  (refine nx (aSt (gN rfl) rfl rfl rfl rfl rfl rfl rfl rfl rfl rfl) rfl ?_)
  refine ⟨by kernel_rfl, ?_⟩
  show AWp _ _ _ _ _ _ _
  refine aS (aR ?_)
  (refine nx (aL (gN rfl) rfl rfl rfl rfl rfl rfl rfl rfl rfl rfl rfl rfl) rfl ?_)
  (refine nx (aL (gN rfl) rfl rfl rfl rfl rfl rfl rfl rfl rfl rfl rfl rfl) rfl ?_)
  (refine nx (a_call (gN rfl) rfl rfl rfl rfl rfl (hru)) rfl ?_)
  (refine nx (aM (gN rfl) rfl rfl rfl rfl rfl) rfl ?_)
  (refine nx (aX (gN rfl) rfl rfl rfl rfl rfl rfl) rfl ?_)
  (refine nx (aX (gN rfl) rfl rfl rfl rfl rfl rfl) rfl ?_)
  (refine nx (aA (gN rfl) rfl rfl rfl rfl rfl) rfl ?_)
  (refine nx (aA (gN rfl) rfl rfl rfl rfl rfl) rfl ?_)
  show AWp _ _ _ _ _ _ _
  refine AWp.wk (wk_sub (s' := [(2, .val (.lst (u.map Bd.cv))), (7, .bp 7 0 []), (100007, .bx a.cw), (8, .bp 8 0 []), (100008, .bx b.cw), (9, .val (.lst (r.1.map Bd.cv))), (10, .val (.b r.2))]) ⟨rfl, rfl, rfl, rfl, rfl, rfl, rfl, trivial⟩) ?_
  refine awp_mid [(2, .val (.lst (u.map Bd.cv))), (7, .bp 7 0 []), (100007, .bx a.cw), (8, .bp 8 0 []), (100008, .bx b.cw), (9, .val (.lst (r.1.map Bd.cv))), (10, .val (.b r.2))] ?_ ?_
  · cases h2 : r.2 with
    | false =>
      refine aS (aD (by kernel_rfl) (by kernel_rfl) ?_)
      (refine nx (aM (gN rfl) rfl rfl rfl rfl rfl) rfl ?_)
      (refine nx (aM (gN rfl) rfl rfl rfl rfl rfl) rfl ?_)
      (refine ⟨_, _, _, a_offt (go_off rfl rfl rfl rfl (by first | rfl | assumption | (simp; done) | (simp [*]; done))) rfl rfl rfl, rfl, ?_⟩)
      (refine ⟨_, _, _, a_offt (go_off rfl rfl rfl rfl (by first | rfl | assumption | (simp; done) | (simp [*]; done))) rfl rfl rfl, rfl, ?_⟩)
      (refine ⟨_, _, _, a_offt (go_off rfl rfl rfl rfl (by first | rfl | assumption | (simp; done) | (simp [*]; done))) rfl rfl rfl, rfl, ?_⟩)
      (refine ⟨_, _, _, a_offt (go_off rfl rfl rfl rfl (by first | rfl | assumption | (simp; done) | (simp [*]; done))) rfl rfl rfl, rfl, ?_⟩)
      (refine ⟨_, _, _, a_offt (go_off rfl rfl rfl rfl (by first | rfl | assumption | (simp; done) | (simp [*]; done))) rfl rfl rfl, rfl, ?_⟩)
      (refine ⟨_, _, _, a_offt (go_off rfl rfl rfl rfl (by first | rfl | assumption | (simp; done) | (simp [*]; done))) rfl rfl rfl, rfl, ?_⟩)
      (refine ⟨_, _, _, a_offt (go_off rfl rfl rfl rfl (by first | rfl | assumption | (simp; done) | (simp [*]; done))) rfl rfl rfl, rfl, ?_⟩)
      (refine ⟨_, _, _, a_offt (go_off rfl rfl rfl rfl (by first | rfl | assumption | (simp; done) | (simp [*]; done))) rfl rfl rfl, rfl, ?_⟩)
      (refine ⟨_, _, _, a_offt (go_off rfl rfl rfl rfl (by first | rfl | assumption | (simp; done) | (simp [*]; done))) rfl rfl rfl, rfl, ?_⟩)
      (refine ⟨_, _, _, a_offt (go_off_t rfl rfl rfl rfl) rfl rfl rfl, rfl, ?_⟩)
      (refine ⟨_, _, _, a_offt (go_off_t rfl rfl rfl rfl) rfl rfl rfl, rfl, ?_⟩)
      (refine ⟨_, _, _, a_offt (go_off_t rfl rfl rfl rfl) rfl rfl rfl, rfl, ?_⟩)
      (refine ⟨_, _, _, a_offt (go_off rfl rfl rfl rfl (by first | rfl | assumption | (simp; done) | (simp [*]; done))) rfl rfl rfl, rfl, ?_⟩)
      (refine ⟨_, _, _, aPf (gN rfl) rfl rfl rfl rfl rfl ?hb rfl, rfl, ?_⟩; case hb => (first | rfl | assumption | (simp; done)))
      refine ⟨by kernel_rfl, ?_⟩
      show AWp _ _ _ _ _ _ _
      refine aC rfl (fun hc => by cases hc) (fun hc => aK ?_)
      exact wk_sub ⟨rfl, rfl, rfl, rfl, rfl, rfl, rfl, trivial⟩
    | true =>
      have hmg := htold.yes h2
      have s1 := same_abs w (rep_rng htold.bdsOk ha) (rep_rng htold.bdsOk hb)
      rw [show sameT (repT (imgB r.1) a) (repT (imgB r.1) b) = true from (sameT_iff _ _).2 (by rw [hmg.uni (a, b) (by simp)])] at s1
      have hsv := uSolved_abs w r.1 (by have := htold.len; omega) htold.bdsOk (srt_nodup htold.srt) (fun x hx v hv hm => by
        obtain ⟨y, hy, e⟩ := List.mem_map.1 hm
        have h0 : 0 ≤ x.v := vp_pos (htold.inV x hx).1
        have hi : repT (imgB r.1) (varT x.v) = x.t := by
          rw [rep_varT h0]
          unfold imgB
          rw [find_srt htold.srt x hx]
          exact htold.bare x hx
        have := htold.free (varT x.v) v (by rw [hi]; exact hv)
        rw [← e, find_srt htold.srt y hy] at this
        cases this)
      refine aS (aD (by kernel_rfl) (by kernel_rfl) ?_)
      (refine nx (aM (gN rfl) rfl rfl rfl rfl rfl) rfl ?_)
      (refine nx (aM (gN rfl) rfl rfl rfl rfl rfl) rfl ?_)
      (refine nx (aM (gd_on rfl rfl rfl rfl (by first | rfl | assumption | (simp; done))) rfl rfl rfl rfl rfl) rfl ?_)
      (refine nx (aL (gd_on rfl rfl rfl rfl (by first | rfl | assumption | (simp; done))) rfl rfl rfl rfl rfl rfl rfl rfl rfl rfl rfl rfl) rfl ?_)
      (refine nx (a_call (gd_on rfl rfl rfl rfl (by first | rfl | assumption | (simp; done))) rfl rfl rfl rfl rfl (hap a ha hao)) rfl ?_)
      (refine nx (aM (gd_on rfl rfl rfl rfl (by first | rfl | assumption | (simp; done))) rfl rfl rfl rfl rfl) rfl ?_)
      (refine nx (aL (gd_on rfl rfl rfl rfl (by first | rfl | assumption | (simp; done))) rfl rfl rfl rfl rfl rfl rfl rfl rfl rfl rfl rfl) rfl ?_)
      (refine nx (a_call (gd_on rfl rfl rfl rfl (by first | rfl | assumption | (simp; done))) rfl rfl rfl rfl rfl (hap b hb hbo)) rfl ?_)
      (refine nx (a_call (gd_on rfl rfl rfl rfl (by first | rfl | assumption | (simp; done))) rfl rfl rfl rfl rfl (s1)) rfl ?_)
      (refine nx (a_not (gd_on rfl rfl rfl rfl (by first | rfl | assumption | (simp; done))) rfl rfl rfl rfl rfl) rfl ?_)
      (refine nx (aM (gd_on rfl rfl rfl rfl (by first | rfl | assumption | (simp; done))) rfl rfl rfl rfl rfl) rfl ?_)
      (refine nx (aM (gd_on rfl rfl rfl rfl (by first | rfl | assumption | (simp; done))) rfl rfl rfl rfl rfl) rfl ?_)
      (refine nx (a_call (gd_on rfl rfl rfl rfl (by first | rfl | assumption | (simp; done))) rfl rfl rfl rfl rfl (hsv)) rfl ?_)
      (refine nx (a_not (gd_on rfl rfl rfl rfl (by first | rfl | assumption | (simp; done))) rfl rfl rfl rfl rfl) rfl ?_)
      (refine ⟨_, _, _, aPf (gd_on rfl rfl rfl rfl (by first | rfl | assumption | (simp; done))) rfl rfl rfl rfl rfl ?hb rfl, rfl, ?_⟩; case hb => (first | rfl | assumption | (simp; done)))
      (refine ⟨_, _, _, aPt (gN rfl) rfl rfl rfl rfl rfl ?hb rfl, rfl, ?_⟩; case hb => (first | rfl | assumption | (simp; done)))
      refine ⟨by kernel_rfl, ?_⟩
      show AWp _ _ _ _ _ _ _
      refine aC rfl (fun hc => by cases hc) (fun hc => aK ?_)
      exact wk_sub ⟨rfl, rfl, rfl, rfl, rfl, rfl, rfl, trivial⟩
  have husz := Bd.size_all u
  refine aS (aS (aR ?_))
  (refine nx (aA (gN rfl) rfl rfl rfl rfl rfl) rfl ?_)
  show AWp _ _ _ _ _ _ _
  refine aB (awp_count u.length (fun k => [(2, .val (.lst (u.map Bd.cv))), (7, .bp 7 0 []), (100007, .bx a.cw), (8, .bp 8 0 []), (100008, .bx b.cw), (9, .val (.lst (r.1.map Bd.cv))), (10, .val (.b r.2)), (11, .val (.i k))]) (wk_sub ⟨rfl, rfl, rfl, rfl, rfl, rfl, rfl, rfl, trivial⟩) ?_)
  intro k hk
  refine aS (aS (aR ?_))
  (refine nx (aM (gN rfl) rfl rfl rfl rfl rfl) rfl ?_)
  (refine nx (aM (gN rfl) rfl rfl rfl rfl rfl) rfl ?_)
  (refine nx (a_len (gN rfl) rfl rfl rfl rfl rfl rfl rfl) rfl ?_)
  (refine nx (a_lss (gN rfl) rfl rfl rfl rfl rfl rfl) rfl ?_)
  show AWp _ _ _ _ _ _ _
  refine aC rfl (fun hlt => ?_) (fun hlt => ?_)
  · have hkl : k < u.length := by simpa using hlt
    obtain ⟨x, hx⟩ : ∃ x, u[k]? = some x := ⟨u[k], List.getElem?_eq_getElem hkl⟩
    have hx' := Bd.map_at hx
    have hsm := small_abs w x.t 6 6 (huf x (List.mem_of_getElem? hx)).1 (by decide) (by decide) (by decide) (by decide)
    refine aK ?_
    show AWp _ _ _ _ _ _ _
    refine aS (aB (aS (aR ?_)))
    (refine nx (aM (gN rfl) rfl rfl rfl rfl rfl) rfl ?_)
    (refine nx (aM (gN rfl) rfl rfl rfl rfl rfl) rfl ?_)
    (refine nx (a_index (j := k) (gN rfl) rfl rfl rfl rfl rfl rfl rfl rfl rfl (hx') rfl (husz)) rfl ?_)
    (refine nx (a_field_ad (gN rfl) rfl rfl rfl rfl rfl rfl rfl rfl rfl rfl rfl) rfl ?_)
    (refine nx (a_load_ad (gN rfl) rfl rfl rfl rfl rfl rfl rfl rfl rfl) rfl ?_)
    (refine nx (a_call (gN rfl) rfl rfl rfl rfl rfl (hsm)) rfl ?_)
    (refine nx (a_lss (gN rfl) rfl rfl rfl rfl rfl rfl) rfl ?_)
    show AWp _ _ _ _ _ _ _
    refine aC rfl (fun hc => ?_) (fun hc => aK ?_)
    · refine aS (aR ?_)
      (refine nx (aA (gN rfl) rfl rfl rfl rfl rfl) rfl ?_)
      show AWp _ _ _ _ _ _ _
      exact aT (And.intro (.inr rfl) rfl)
    · show AWp _ _ _ _ _ _ _
      refine aR ?_
      (refine nx (aM (gN rfl) rfl rfl rfl rfl rfl) rfl ?_)
      (refine nx (a_add (gN rfl) rfl rfl rfl rfl rfl rfl (by first | omega | (simp only [List.length_map, List.length_append, List.length_cons, List.length_nil] <;> omega) | (simp <;> omega))) rfl ?_)
      (refine nx (aA (gN rfl) rfl rfl rfl rfl rfl) rfl ?_)
      exact ⟨hkl, wk_sub ⟨rfl, rfl, rfl, rfl, rfl, rfl, rfl, rfl, trivial⟩⟩
  refine aE ?_
  show AWp _ _ _ _ _ _ _
  have hof := of7_abs w u (by omega) (fun x hx => (huf x hx).2.1)
  refine aS (aR ?_)
  (refine nx (aM (gN rfl) rfl rfl rfl rfl rfl) rfl ?_)
  (refine nx (a_call (gN rfl) rfl rfl rfl rfl rfl (hof)) rfl ?_)
  (refine nx (aA (gN rfl) rfl rfl rfl rfl rfl) rfl ?_)
  show AWp _ _ _ _ _ _ _
  have s2 := same_abs w (rep_rng huo ha) (rep_rng huo hb)
  cases hsu : sameT (repT (imgB u) a) (repT (imgB u) b) with
  | false =>
    rw [hsu] at s2
    refine aS (aS (aD (by kernel_rfl) (by kernel_rfl) ?_))
    (refine nx (aM (gN rfl) rfl rfl rfl rfl rfl) rfl ?_)
    (refine nx (aL (gN rfl) rfl rfl rfl rfl rfl rfl rfl rfl rfl rfl rfl rfl) rfl ?_)
    (refine nx (a_call (gN rfl) rfl rfl rfl rfl rfl (hap2 a ha hao)) rfl ?_)
    (refine nx (aM (gN rfl) rfl rfl rfl rfl rfl) rfl ?_)
    (refine nx (aL (gN rfl) rfl rfl rfl rfl rfl rfl rfl rfl rfl rfl rfl rfl) rfl ?_)
    (refine nx (a_call (gN rfl) rfl rfl rfl rfl rfl (hap2 b hb hbo)) rfl ?_)
    (refine nx (a_call (gN rfl) rfl rfl rfl rfl rfl (s2)) rfl ?_)
    (refine nx (a_not (gN rfl) rfl rfl rfl rfl rfl) rfl ?_)
    refine ⟨by kernel_rfl, ?_⟩
    show AWp _ _ _ _ _ _ _
    refine aC rfl (fun hc => ?_) (fun hc => by cases hc)
    refine aS (aR ?_)
    (refine nx (aA (gN rfl) rfl rfl rfl rfl rfl) rfl ?_)
    show AWp _ _ _ _ _ _ _
    exact aT (And.intro (.inr rfl) rfl)
  | true =>
  rw [hsu] at s2
  have huni : uni (imgB u) [(a, b)] := by
    rw [uni_one]
    have := (sameT_iff _ _).1 hsu
    rw [rep_bare, rep_bare] at this
    exact this
  have hyes : r.2 = true := by
    cases h : r.2 with
    | true => rfl
    | false => exact absurd huni ((htold.no h).2 _)
  have hmg := htold.yes hyes
  have hpos : ∀ x ∈ r.1, 0 ≤ x.v := fun x hx => vp_pos (htold.inV x hx).1
  have hfew := few_bound hmg htold.srt hpos htold.bare (fun x hx => hnid x hx (hpos x hx)) huni
  have himg : ∀ x ∈ r.1, imgB r.1 x.v = x.t := fun x hx => by unfold imgB; rw [find_srt htold.srt x hx]; rfl
  have hur20 : ∀ v, (imgB u v).size ≤ 20 := fun v => by
    unfold imgB
    cases h : findB u v with
    | none =>
      show (varT v).size ≤ 20
      rw [varT_size]; decide
    | some t =>
      obtain ⟨y, hy, e, _⟩ := findB_mem h
      show t.size ≤ 20
      rw [← e]; exact (huf y hy).2.2
  have hrs : ∀ x ∈ r.1, (repT (imgB u) x.t).size ≤ 90000000000 := fun x hx => by
    have := hmg.most (imgB u) huni x.v (hpos x hx)
    rw [himg x hx] at this
    rw [this, Tm.strip_size]
    have := hur20 x.v
    omega
  have hth := then_abs w r.1 u (by omega) htold.bdsOk (fun x hx => (htold.ok x hx).2) huo hrs
  have hto : bdsOk (thenF r.1 u) := norm_ok8 fun x hx => by
    rcases List.mem_append.1 hx with hx | hx
    · obtain ⟨y, hy, rfl⟩ := List.mem_map.1 hx
      have hyr := firstsF_mem hy
      exact ⟨rep_rng huo (htold.bdsOk y hyr).1, hrs y hyr⟩
    · exact huo x hx
  have hthl := thenF_len r.1 u
  obtain ⟨V, hV⟩ : ∃ V, V = varsF a.flat ++ varsF b.flat := ⟨_, rfl⟩
  have la := vars8_len a
  have lb := vars8_len b
  have hVl : V.length ≤ 32 := by rw [hV, List.length_append]; omega
  have hVb : ∀ v ∈ V, 0 ≤ v ∧ v ≤ 9223372036854775807 := fun v hv => by
    have key : ∀ t : Tm, t.sm → v ∈ varsF t.flat → 0 ≤ v ∧ v ≤ 9223372036854775807 := fun t hts hm => by
      rw [nv_vars] at hm
      have hm := (mem_nub _ _).1 hm
      have h1 := vs_nonneg _ v hm
      have h2 := vs_le (B := 1000) (fun s hs => (Tm.sm_flat hts s hs).1) v hm
      exact ⟨h1, by omega⟩
    rw [hV] at hv
    rcases List.mem_append.1 hv with hv | hv
    · exact key a hasm hv
    · exact key b hbsm hv
  have hal := alike_abs w (thenF r.1 u) u V (by omega) (by omega) hto huo (by omega) hVb
  have hyesA : alikeB (thenF r.1 u) u V = true := by
    unfold alikeB
    refine List.all_eq_true.2 fun v hv => ?_
    rw [sameT_iff, img_then r.1 u (hVb v hv).1]
    exact hmg.most (imgB u) huni v (hVb v hv).1
  rw [hyesA, hV, List.map_append] at hal
  have hva := varsO_abs 300086 (by decide) (by decide) ha (by omega)
  have hvb := vars_abs w hb (by omega)
  have hlm1 : ((varsF a.flat).map CV.i).length = (varsF a.flat).length := List.length_map ..
  have halO := afun_lend3 (e := 3) (z := 1) (nm := 300089) (N := ((varsF a.flat).map CV.i).length + ((varsF b.flat).map CV.i).length) (by decide) (by decide) (by rw [List.length_append]) hal
  rw [hyes]
  refine aS (aS (aD (by kernel_rfl) (by kernel_rfl) ?_))
  (refine nx (aM (gN rfl) rfl rfl rfl rfl rfl) rfl ?_)
  (refine nx (aL (gN rfl) rfl rfl rfl rfl rfl rfl rfl rfl rfl rfl rfl rfl) rfl ?_)
  (refine nx (a_call (gN rfl) rfl rfl rfl rfl rfl (hap2 a ha hao)) rfl ?_)
  (refine nx (aM (gN rfl) rfl rfl rfl rfl rfl) rfl ?_)
  (refine nx (aL (gN rfl) rfl rfl rfl rfl rfl rfl rfl rfl rfl rfl rfl rfl) rfl ?_)
  (refine nx (a_call (gN rfl) rfl rfl rfl rfl rfl (hap2 b hb hbo)) rfl ?_)
  (refine nx (a_call (gN rfl) rfl rfl rfl rfl rfl (s2)) rfl ?_)
  (refine nx (a_not (gN rfl) rfl rfl rfl rfl rfl) rfl ?_)
  refine ⟨by kernel_rfl, ?_⟩
  show AWp _ _ _ _ _ _ _
  refine aC rfl (fun hc => by cases hc) (fun hc => aK ?_)
  show AWp _ _ _ _ _ _ _
  refine AWp.wk (wk_sub (s' := [(7, .bp 7 0 []), (100007, .bx a.cw), (8, .bp 8 0 []), (100008, .bx b.cw), (9, .val (.lst (r.1.map Bd.cv))), (10, .val (.b true)), (12, .val (.lst (u.map Bd.cv)))]) ⟨rfl, rfl, rfl, rfl, rfl, rfl, rfl, trivial⟩) ?_
  refine aS (aD (by kernel_rfl) (by kernel_rfl) ?_)
  (refine nx (aM (gN rfl) rfl rfl rfl rfl rfl) rfl ?_)
  (refine nx (aM (gN rfl) rfl rfl rfl rfl rfl) rfl ?_)
  (refine nx (aM (gd_on rfl rfl rfl rfl (by first | rfl | assumption | (simp; done))) rfl rfl rfl rfl rfl) rfl ?_)
  (refine nx (aM (gd_on rfl rfl rfl rfl (by first | rfl | assumption | (simp; done))) rfl rfl rfl rfl rfl) rfl ?_)
  (refine nx (a_call (gd_on rfl rfl rfl rfl (by first | rfl | assumption | (simp; done))) rfl rfl rfl rfl rfl (hth)) rfl ?_)
  (refine nx (aM (gd_on rfl rfl rfl rfl (by first | rfl | assumption | (simp; done))) rfl rfl rfl rfl rfl) rfl ?_)
  (refine nx (aL (gd_on rfl rfl rfl rfl (by first | rfl | assumption | (simp; done))) rfl rfl rfl rfl rfl rfl rfl rfl rfl rfl rfl rfl) rfl ?_)
  (refine nx (a_callO (gd_on rfl rfl rfl rfl (by first | rfl | assumption | (simp; done))) rfl rfl rfl rfl rfl (hva) (by repeat (first | exact trivial | refine ⟨rfl, ?_⟩)) (by first | rfl | kernel_rfl) (by first | rfl | kernel_rfl) (by first | rfl | kernel_rfl) (by first | rfl | kernel_rfl) (hnb_of (by first | rfl | kernel_rfl))) rfl ?_)
  (refine nx (aL (gd_on rfl rfl rfl rfl (by first | rfl | assumption | (simp; done))) rfl rfl rfl rfl rfl rfl rfl rfl rfl rfl rfl rfl) rfl ?_)
  (refine nx (a_call (gd_on rfl rfl rfl rfl (by first | rfl | assumption | (simp; done))) rfl rfl rfl rfl rfl (hvb)) rfl ?_)
  (refine nx (a_appM 300089 (gd_on rfl rfl rfl rfl (by first | rfl | assumption | (simp; done))) rfl rfl rfl rfl rfl rfl rfl rfl rfl rfl rfl rfl rfl (by first | rfl | omega | (simp only [List.length_set, List.length_map, List.length_append, List.length_cons, List.length_nil] <;> omega) | (simp <;> omega)) (by first | assumption | exact sZ rfl | exact Tm.size_all _ | exact Bd.size_all _ | exact ints_size _ | exact bys_size _ | exact Lt.size_all _) (by first | omega | (simp only [List.length_map, List.length_append, List.length_cons, List.length_nil] <;> omega) | (simp <;> omega))) rfl ?_)
  (refine nx (a_callOD ([89]) (gd_on rfl rfl rfl rfl (by first | rfl | assumption | (simp; done))) rfl rfl rfl rfl rfl (halO) (by repeat (first | exact trivial | refine ⟨rfl, ?_⟩)) (by first | rfl | kernel_rfl) (by first | rfl | kernel_rfl) (by first | rfl | kernel_rfl) (by first | rfl | kernel_rfl) (hnb_of (by first | rfl | kernel_rfl)) (by first | rfl | kernel_rfl) (by first | rfl | kernel_rfl) (by first | rfl | kernel_rfl)) rfl ?_)
  (refine ⟨_, _, _, aPt (gN rfl) rfl rfl rfl rfl rfl ?hb rfl, rfl, ?_⟩; case hb => (first | rfl | assumption | (simp; done)))
  (refine nx (aA (gN rfl) rfl rfl rfl rfl rfl) rfl ?_)
  refine ⟨by kernel_rfl, ?_⟩
  show AWp _ _ _ _ _ _ _
  exact aT (And.intro (.inr rfl) rfl)
end Go.Proofs.Ytiammidklcjelab

