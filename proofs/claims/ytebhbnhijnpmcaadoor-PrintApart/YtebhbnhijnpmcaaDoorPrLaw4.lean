/-
  PrintApart.
-/
import Derived.Test.YtebhbnhijnpmcaaDoorMg6
import Derived.Test.YtebhbnhijnpmcaaDoorAbShp
-- @STR@
namespace Go.Proofs.YtebhbnhijnpmcaaDoor
open Go.RowKit
set_option linter.unusedVariables false
set_option linter.unusedSimpArgs false
set_option maxRecDepth 100000

theorem strip_bd {L V : Nat} : ∀ t : Tm, t.bd L V → t.strip = t := by
  refine Tm.ind ?_
  intro f l ih h
  obtain ⟨⟨h1, h2⟩, h3⟩ := (Tm.bd_iff L V ⟨f, l⟩).1 h
  simp only at h1 h2 h3
  rw [Tm.strip_eq]
  rcases Int.lt_or_le f 0 with hf | hf
  · rw [Tm.ps_of_var hf, (h1 hf).2]; rfl
  · rw [Tm.ps_of_sym hf]
    show (⟨f, l.map Tm.strip⟩ : Tm) = ⟨f, l⟩
    congr 1
    have : ∀ (l : List Tm), (∀ t ∈ l, t.strip = t) → l.map Tm.strip = l := by
      intro l
      induction l with
      | nil => intro _; rfl
      | cons x xs ihx => intro h; rw [List.map_cons, h x (by simp), ihx fun t ht => h t (List.mem_cons_of_mem _ ht)]
    exact this l fun t ht => ih t ht (h3 t ht)
theorem strip_lt {L V : Nat} {x : Lt} (h : LtB L V x) : x.strip = x := by
  have ha := strip_bd x.a h.a
  have hb : x.b.strip = x.b := by
    cases ht : trB x.b with
    | true => rw [(h.t ht).1, Tm.strip_eq]; rfl
    | false => exact strip_bd x.b (h.b ht)
  obtain ⟨a, b, c⟩ := x
  show (⟨a, b.strip, c.strip⟩ : Lt) = _
  rw [ha, hb]
theorem strip_cls {L V : Nat} {c : List Lt} (h : ∀ x ∈ c, LtB L V x) : c.map Lt.strip = c := by
  induction c with
  | nil => rfl
  | cons x c ih => rw [List.map_cons, strip_lt (h x (by simp)), ih fun y hy => h y (List.mem_cons_of_mem _ hy)]
-- 
set_option maxHeartbeats 4000000 in
theorem printApart_abs (W : World) (src : By) (hl : src.length ≤ 9223372036854775807) (a b : Int) (ha : 0 ≤ a ∧ a ≤ 255) (hb : 0 ≤ b ∧ b ≤ 255) : AFun Tryd.prog W 6 [sv src, .sc (.int .u8 a), .sc (.int .u8 b)] (.val (.b true)) := by
  obtain ⟨r, hr⟩ := prF_some src
  have hp := fun w => parse_abs w 65600 src r hl hr
  refine afun_of (rs := [.b true]) Tryd.func6 Tryd.ntmps6 rfl rfl rfl rfl ?_
  intro w U hW
  have h0 := alive13_abs w
  refine aS (aR ?_)
  (refine nx (aA (gN rfl) rfl rfl rfl rfl rfl) rfl ?_)
  show AWp _ _ _ _ _ _ _
  refine aS (aS (aR ?_))
  (refine nx (a_call (gN rfl) rfl rfl rfl rfl rfl (h0)) rfl ?_)
  (refine nx (a_not (gN rfl) rfl rfl rfl rfl rfl) rfl ?_)
  show AWp _ _ _ _ _ _ _
  refine aC rfl (fun hc => by cases hc) (fun hc => aK ?_)
  show AWp _ _ _ _ _ _ _
  refine aS (aS (aR ?_))
  (refine nx (aM (gN rfl) rfl rfl rfl rfl rfl) rfl ?_)
  (refine nx (a_slen (gN rfl) rfl rfl rfl rfl rfl rfl rfl) rfl ?_)
  (refine nx (a_gtr (gN rfl) rfl rfl rfl rfl rfl rfl) rfl ?_)
  show AWp _ _ _ _ _ _ _
  refine aC rfl (fun hc => ?_) (fun hc => ?_)
  · refine aS (aR ?_)
    (refine nx (aA (gN rfl) rfl rfl rfl rfl rfl) rfl ?_)
    show AWp _ _ _ _ _ _ _
    exact aT (And.intro (.inr rfl) rfl)
  have hs : src.length ≤ 1000 := by
    have hc : decide ((src.length : Int) > 1000) = false := hc
    have := of_decide_eq_false hc
    omega
  refine aK ?_
  show AWp _ _ _ _ _ _ _
  refine aS (aR ?_)
  (refine nx (aM (gN rfl) rfl rfl rfl rfl rfl) rfl ?_)
  (refine nx (a_call (gN rfl) rfl rfl rfl rfl rfl (hp w)) rfl ?_)
  (refine nx (aM (gN rfl) rfl rfl rfl rfl rfl) rfl ?_)
  (refine nx (aX (gN rfl) rfl rfl rfl rfl rfl rfl) rfl ?_)
  (refine nx (aX (gN rfl) rfl rfl rfl rfl rfl rfl) rfl ?_)
  (refine nx (aX (gN rfl) rfl rfl rfl rfl rfl rfl) rfl ?_)
  (refine nx (a_alloc (gN rfl) rfl rfl rfl rfl rfl rfl rfl rfl rfl rfl) rfl ?_)
  (refine nx (aSt (gN rfl) rfl rfl rfl rfl rfl rfl rfl rfl rfl rfl) rfl ?_)
  (refine nx (aA (gN rfl) rfl rfl rfl rfl rfl) rfl ?_)
  (refine nx (aA (gN rfl) rfl rfl rfl rfl rfl) rfl ?_)
  show AWp _ _ _ _ _ _ _
  refine AWp.wk (wk_sub (s' := [(1, .val (.sc (.int .u8 a))), (2, .val (.sc (.int .u8 b))), (7, .bp 7 0 []), (100007, .bx (sgv r.1)), (8, .val (.lst (r.2.1.map lcv))), (9, .val (.sc (.int .u8 r.2.2)))]) ⟨rfl, rfl, rfl, rfl, rfl, rfl, trivial⟩) ?_
  have xr := prF_err3 hr
  by_cases he : r.2.2 = 0
  case neg =>
    obtain ⟨s, l, e⟩ := r
    simp only at he xr ⊢
    have g : decide (e ≠ 0) = true := decide_eq_true he
    refine aS (aS (aR ?_))
    (refine nx (aM (gN rfl) rfl rfl rfl rfl rfl) rfl ?_)
    (refine nx (a_conv (gN rfl) rfl rfl rfl rfl rfl rfl rfl (by first | rfl | (rw [IntKind.wrap_i64]; omega) | assumption)) rfl ?_)
    (refine nx (a_neq (gN rfl) rfl rfl rfl rfl rfl rfl) rfl ?_)
    (refine nx (aM (gN rfl) rfl rfl rfl rfl rfl) rfl ?_)
    (refine ⟨_, _, _, a_off (go_off rfl rfl rfl rfl (by first | rfl | assumption | (simp; done) | (simp [*]; done))) rfl rfl rfl, rfl, ?_⟩)
    (refine ⟨_, _, _, a_off (go_off rfl rfl rfl rfl (by first | rfl | assumption | (simp; done) | (simp [*]; done))) rfl rfl rfl, rfl, ?_⟩)
    (refine ⟨_, _, _, a_off (go_off rfl rfl rfl rfl (by first | rfl | assumption | (simp; done) | (simp [*]; done))) rfl rfl rfl, rfl, ?_⟩)
    (refine ⟨_, _, _, aPt (gN rfl) rfl rfl rfl rfl rfl ?hb rfl, rfl, ?_⟩; case hb => (first | rfl | assumption | (simp; done)))
    show AWp _ _ _ _ _ _ _
    refine aC rfl (fun hc => ?_) (fun hc => by cases hc)
    refine aS (aR ?_)
    (refine nx (aA (gN rfl) rfl rfl rfl rfl rfl) rfl ?_)
    show AWp _ _ _ _ _ _ _
    exact aT (And.intro (.inr rfl) rfl)
  have hP := prF_prs hr he
  have hG := prF_g hr
  have hL := hP.len
  have hln : (r.2.1.map lcv).length = r.2.1.length := List.length_map ..
  have hsz := lcvs_size r.2.1
  obtain ⟨s, l, e⟩ := r
  simp only at he hP hL hln hsz hG ⊢
  subst he
  clear xr
  refine aS (aS (aR ?_))
  (refine nx (aM (gN rfl) rfl rfl rfl rfl rfl) rfl ?_)
  (refine nx (a_conv (gN rfl) rfl rfl rfl rfl rfl rfl rfl (by first | rfl | (rw [IntKind.wrap_i64]; omega) | assumption)) rfl ?_)
  (refine nx (a_neq (gN rfl) rfl rfl rfl rfl rfl rfl) rfl ?_)
  (refine nx (aM (gN rfl) rfl rfl rfl rfl rfl) rfl ?_)
  (refine nx (aM (gd_on rfl rfl rfl rfl (by first | rfl | assumption | (simp; done))) rfl rfl rfl rfl rfl) rfl ?_)
  (refine nx (a_len (gd_on rfl rfl rfl rfl (by first | rfl | assumption | (simp; done))) rfl rfl rfl rfl rfl rfl rfl) rfl ?_)
  (refine nx (a_eql (gd_on rfl rfl rfl rfl (by first | rfl | assumption | (simp; done))) rfl rfl rfl rfl rfl rfl) rfl ?_)
  (refine ⟨_, _, _, aPf (gN rfl) rfl rfl rfl rfl rfl ?hb rfl, rfl, ?_⟩; case hb => (first | rfl | assumption | (simp; done)))
  show AWp _ _ _ _ _ _ _
  refine aC rfl (fun hc => ?_) (fun hc => ?_)
  · refine aS (aR ?_)
    (refine nx (aA (gN rfl) rfl rfl rfl rfl rfl) rfl ?_)
    show AWp _ _ _ _ _ _ _
    exact aT (And.intro (.inr rfl) rfl)
  have hl0 : l.length ≠ 0 := by
    have hc : decide (((l.map lcv).length : Int) = 0) = false := hc
    have := of_decide_eq_false hc
    omega
  have hne : ((l.map lcv).length : Int) ≠ 0 := by rw [hln]; omega
  have pick : ∀ a : Int, 0 ≤ a → ∃ kk : Nat, Int.tmod a ((l.map lcv).length : Int) = (kk : Int) ∧ kk < l.length := fun a ha => by
    refine ⟨(a % (l.length : Int)).toNat, ?_, ?_⟩
    · rw [hln, Int.tmod_eq_emod_of_nonneg ha, Int.toNat_of_nonneg (Int.emod_nonneg _ (by omega))]
    · have := Int.emod_lt_of_pos a (show (0 : Int) < (l.length : Int) by omega)
      have := Int.emod_nonneg a (show (l.length : Int) ≠ 0 by omega)
      omega
  obtain ⟨k1, i1, j1⟩ := pick a ha.1
  obtain ⟨k2, i2, j2⟩ := pick b hb.1
  obtain ⟨x, hx1⟩ : ∃ x, l[k1]? = some x := ⟨l[k1], List.getElem?_eq_getElem j1⟩
  obtain ⟨y, hy1⟩ : ∃ y, l[k2]? = some y := ⟨l[k2], List.getElem?_eq_getElem j2⟩
  have hxm := List.mem_of_getElem? hx1
  have hym := List.mem_of_getElem? hy1
  have hx' := lcv_at hx1
  have hy' := lcv_at hy1
  obtain ⟨q1, q1l⟩ := prs_cls hP (by omega) w hxm
  obtain ⟨q2, q2l⟩ := prs_cls hP (by omega) w hym
  have gx := hG x hxm
  have gy := hG y hym
  have t1 := to11_abs w x gx.1 gx.2.1
  have t2 := to11_abs w y gy.1 gy.2.1
  rw [strip_cls (hP.lits x hxm).2] at t1
  rw [strip_cls (hP.lits y hym).2] at t2
  have t3 := same11_abs w x y gx.1 gx.2.1 gy.2.1
  have hsame : sameC x y = decide (txC s.nm x = txC s.nm y) := by
    have h1 : sameC x y = true ↔ x = y := by rw [sameC_iff, strip_cls (hP.lits x hxm).2, strip_cls (hP.lits y hym).2]
    have h2 : txC s.nm x = txC s.nm y ↔ x = y := ⟨fun e => txC_inj hP.nms hP.nd (hP.lits x hxm) (hP.lits y hym) e, fun e => by rw [e]⟩
    by_cases e : x = y
    · rw [h1.2 e, decide_eq_true (h2.2 e)]
    · have n1 : sameC x y = false := by
        cases hh : sameC x y with
        | false => rfl
        | true => exact absurd (h1.1 hh) e
      rw [n1, decide_eq_false fun h => e (h2.1 h)]
  rw [hsame] at t3
  refine aK ?_
  show AWp _ _ _ _ _ _ _
  refine aS (aD (by kernel_rfl) (by kernel_rfl) ?_)
  (refine nx (aM (gN rfl) rfl rfl rfl rfl rfl) rfl ?_)
  (refine nx (aM (gN rfl) rfl rfl rfl rfl rfl) rfl ?_)
  (refine nx (a_conv (gN rfl) rfl rfl rfl rfl rfl rfl rfl (by first | rfl | (rw [IntKind.wrap_i64]; omega) | assumption)) rfl ?_)
  (refine nx (aM (gN rfl) rfl rfl rfl rfl rfl) rfl ?_)
  (refine nx (a_len (gN rfl) rfl rfl rfl rfl rfl rfl rfl) rfl ?_)
  (refine nx (a_rem (gN rfl) rfl rfl rfl rfl rfl rfl (by first | decide | assumption)) rfl ?_)
  (refine nx (a_index (j := k1) (gN rfl) rfl rfl rfl rfl rfl rfl rfl rfl (by first | assumption | exact (by first | rfl | omega | (simp only [List.length_set, List.length_map, List.length_append, List.length_cons, List.length_nil] <;> omega) | (simp <;> omega))) (hx') rfl (hsz)) rfl ?_)
  (refine nx (a_load_ad (gN rfl) rfl rfl rfl rfl rfl rfl rfl rfl rfl) rfl ?_)
  (refine nx (aM (gN rfl) rfl rfl rfl rfl rfl) rfl ?_)
  (refine nx (aM (gN rfl) rfl rfl rfl rfl rfl) rfl ?_)
  (refine nx (a_conv (gN rfl) rfl rfl rfl rfl rfl rfl rfl (by first | rfl | (rw [IntKind.wrap_i64]; omega) | assumption)) rfl ?_)
  (refine nx (aM (gN rfl) rfl rfl rfl rfl rfl) rfl ?_)
  (refine nx (a_len (gN rfl) rfl rfl rfl rfl rfl rfl rfl) rfl ?_)
  (refine nx (a_rem (gN rfl) rfl rfl rfl rfl rfl rfl (by first | decide | assumption)) rfl ?_)
  (refine nx (a_index (j := k2) (gN rfl) rfl rfl rfl rfl rfl rfl rfl rfl (by first | assumption | exact (by first | rfl | omega | (simp only [List.length_set, List.length_map, List.length_append, List.length_cons, List.length_nil] <;> omega) | (simp <;> omega))) (hy') rfl (hsz)) rfl ?_)
  (refine nx (a_load_ad (gN rfl) rfl rfl rfl rfl rfl rfl rfl rfl rfl) rfl ?_)
  (refine nx (aA (gN rfl) rfl rfl rfl rfl rfl) rfl ?_)
  (refine nx (aA (gN rfl) rfl rfl rfl rfl rfl) rfl ?_)
  refine ⟨by kernel_rfl, ?_⟩
  show AWp _ _ _ _ _ _ _
  refine AWp.wk (wk_sub (s' := [(7, .bp 7 0 []), (100007, .bx (sgv s)), (10, .val (lcv x)), (11, .val (lcv y))]) ⟨rfl, rfl, rfl, rfl, trivial⟩) ?_
  refine aS (aD (by kernel_rfl) (by kernel_rfl) ?_)
  (refine nx (aL (gN rfl) rfl rfl rfl rfl rfl rfl rfl rfl rfl rfl rfl rfl) rfl ?_)
  (refine nx (aM (gN rfl) rfl rfl rfl rfl rfl) rfl ?_)
  (refine nx (a_call (gN rfl) rfl rfl rfl rfl rfl (q1)) rfl ?_)
  (refine nx (aL (gN rfl) rfl rfl rfl rfl rfl rfl rfl rfl rfl rfl rfl rfl) rfl ?_)
  (refine nx (aM (gN rfl) rfl rfl rfl rfl rfl) rfl ?_)
  (refine nx (a_call (gN rfl) rfl rfl rfl rfl rfl (q2)) rfl ?_)
  (refine nx (a_seql (gN rfl) rfl rfl rfl rfl rfl rfl rfl) rfl ?_)
  (refine nx (aM (gN rfl) rfl rfl rfl rfl rfl) rfl ?_)
  (refine nx (a_call (gN rfl) rfl rfl rfl rfl rfl (t1)) rfl ?_)
  (refine nx (aM (gN rfl) rfl rfl rfl rfl rfl) rfl ?_)
  (refine nx (a_call (gN rfl) rfl rfl rfl rfl rfl (t2)) rfl ?_)
  (refine nx (a_call (gN rfl) rfl rfl rfl rfl rfl (t3)) rfl ?_)
  (refine nx (a_beq (gN rfl) rfl rfl rfl rfl rfl rfl rfl) rfl ?_)
  (refine nx (aA (gN rfl) rfl rfl rfl rfl rfl) rfl ?_)
  refine ⟨by kernel_rfl, ?_⟩
  show AWp _ _ _ _ _ _ _
  refine aT (And.intro (.inr rfl) ?_)
  have g9 : (decide (txC s.nm x = txC s.nm y) == decide (txC s.nm x = txC s.nm y)) = true := by simp
  rw [← g9]; rfl
end Go.Proofs.YtebhbnhijnpmcaaDoor

