/-
  ClNmW ClNmX ClTtM ClRefN ClRefO ClRefP ClTop ClBare ClN0
-/
import Derived.Test.YtmeegdomncadpaaGreatMg5
import Derived.Test.YtmeegdomncadpaaGreatMg3
import Derived.Test.YtmeegdomncadpaaGreatMg4
namespace Go.Proofs.YtmeegdomncadpaaGreat
open Go.RowKit
set_option linter.unusedVariables false
set_option linter.unusedSimpArgs false
set_option maxRecDepth 100000
theorem isNaN8_any (x : Int) (w : World) :
    Calls Tryz.prog 133 #[.int .u8 x] w fun e w' => e = .returned (.bool false) ∧ w' = w := by
  go_enter Tryz.func133, Tryz.ntmps133
  go_wp2
  go_ret
  exact ⟨by simp, rfl⟩

set_option maxHeartbeats 400000 in
theorem cmpByte_any (x y : Int) (w : World) :
    Calls Tryz.prog 101 #[.int .u8 x, .int .u8 y] w fun e w' => e = .returned (.int .i64 (cmpZ x y)) ∧ Below w.heap.size w w' := by
  rcases Int.lt_trichotomy x y with h | h | h
  · have h2 : cmpZ x y = -1 := if_pos h
    rw [h2]
    clear h2
    go_enter Tryz.func101, Tryz.ntmps101
    go_wp2_with (go_at_call 133; refine (isNaN8_any _ _).mono ?_; rintro e w1 ⟨rfl, rfl⟩)
    go_ret
    exact ⟨rfl, bW _⟩
  · subst h
    have h2 : cmpZ x x = 0 := by simp [cmpZ]
    rw [h2]
    clear h2
    go_enter Tryz.func101, Tryz.ntmps101
    go_wp2_with (go_at_call 133; refine (isNaN8_any _ _).mono ?_; rintro e w1 ⟨rfl, rfl⟩)
    go_ret
    exact ⟨rfl, bW _⟩
  · have h2 : cmpZ x y = 1 := by unfold cmpZ; rw [if_neg (by omega), if_pos h]
    rw [h2]
    clear h2
    go_enter Tryz.func101, Tryz.ntmps101
    go_wp2_with (go_at_call 133; refine (isNaN8_any _ _).mono ?_; rintro e w1 ⟨rfl, rfl⟩)
    go_ret
    exact ⟨rfl, bW _⟩


theorem cmp8_abs (W : World) (x y : Int) : AFun Tryz.prog W 101 [by8 x, by8 y] (.val (.i (cmpZ x y))) := by
  refine ⟨ent_of Tryz.func101 rfl rfl, .inl rfl, rfl, ?_⟩
  rintro U w vs hW ⟨u1, us1, rfl, h1, u2, us2, rfl, h2, h3⟩
  have h3 : us2 = [] := h3
  subst h3
  obtain ⟨rfl, _⟩ := vrep_sc.1 h1
  obtain ⟨rfl, _⟩ := vrep_sc.1 h2
  refine (cmpByte_any x y w).mono ?_
  rintro e w' ⟨rfl, hb⟩
  exact ⟨_, rfl, vrep_sc.2 ⟨rfl, rfl⟩, hb⟩
-- 
theorem cCmpL_abs (W : World) (x y : Lt) (hx : x.rng) (hy : y.rng) : AFun Tryz.prog W 72 [x.cw, y.cw] (.val (.i (cmpLt x y))) := by
  refine afun_of (rs := [.i (cmpLt x y)]) Tryz.func72 Tryz.ntmps72 rfl rfl rfl rfl ?_
  intro w U hW
  refine aS (aR ?_)
  (refine nx (a_box (gN rfl) rfl rfl rfl rfl rfl) rfl ?_)
  (refine nx (a_box (gN rfl) rfl rfl rfl rfl rfl) rfl ?_)
  (refine nx (aA (gN rfl) rfl rfl rfl rfl rfl) rfl ?_)
  show AWp _ _ _ _ _ _ _
  refine aS (aS (aD (by kernel_rfl) (by kernel_rfl) ?_))
  (refine nx (aL (gN rfl) rfl rfl rfl rfl rfl rfl rfl rfl rfl rfl rfl rfl) rfl ?_)
  (refine nx (a_call (gN rfl) rfl rfl rfl rfl rfl (cSign_abs w x)) rfl ?_)
  (refine nx (aL (gN rfl) rfl rfl rfl rfl rfl rfl rfl rfl rfl rfl rfl rfl) rfl ?_)
  (refine nx (a_call (gN rfl) rfl rfl rfl rfl rfl (cSign_abs w y)) rfl ?_)
  (refine nx (a_call (gN rfl) rfl rfl rfl rfl rfl (cmp8_abs w _ _)) rfl ?_)
  (refine nx (aA (gN rfl) rfl rfl rfl rfl rfl) rfl ?_)
  refine ⟨by kernel_rfl, ?_⟩
  show AWp _ _ _ _ _ _ _
  refine aS (aR ?_)
  (refine nx (aM (gN rfl) rfl rfl rfl rfl rfl) rfl ?_)
  (refine nx (a_neq (gN rfl) rfl rfl rfl rfl rfl rfl) rfl ?_)
  show AWp _ _ _ _ _ _ _
  refine aC rfl (fun hc => ?_) (fun hc => ?_)
  · have e : cmpLt x y = cmpZ (sgZ x.neg) (sgZ y.neg) := by unfold cmpLt; rw [if_pos]; exact of_decide_eq_true hc
    rw [e]
    refine aS (aR ?_)
    (refine nx (aM (gN rfl) rfl rfl rfl rfl rfl) rfl ?_)
    (refine nx (aA (gN rfl) rfl rfl rfl rfl rfl) rfl ?_)
    show AWp _ _ _ _ _ _ _
    exact aT (And.intro (.inr rfl) rfl)
  · have e : cmpLt x y = cmpS x y := by unfold cmpLt; rw [if_neg]; exact of_decide_eq_false hc
    rw [e]
    refine aK ?_
    show AWp _ _ _ _ _ _ _
    refine aS (aR ?_)
    (refine nx (aL (gN rfl) rfl rfl rfl rfl rfl rfl rfl rfl rfl rfl rfl rfl) rfl ?_)
    (refine nx (aL (gN rfl) rfl rfl rfl rfl rfl rfl rfl rfl rfl rfl rfl rfl) rfl ?_)
    (refine nx (a_call (gN rfl) rfl rfl rfl rfl rfl (cCmpS_abs w x y hx hy)) rfl ?_)
    (refine nx (aA (gN rfl) rfl rfl rfl rfl rfl) rfl ?_)
    show AWp _ _ _ _ _ _ _
    exact aT (And.intro (.inr rfl) rfl)
-- 
theorem cSameL_abs (W : World) (x y : Lt) (hx : x.rng) (hy : y.rng) : AFun Tryz.prog W 58 [x.cw, y.cw] (.val (.b (smL x y))) := by
  refine afun_of (rs := [.b (smL x y)]) Tryz.func58 Tryz.ntmps58 rfl rfl rfl rfl ?_
  intro w U hW
  refine aS (aR ?_)
  (refine nx (a_box (gN rfl) rfl rfl rfl rfl rfl) rfl ?_)
  (refine nx (a_box (gN rfl) rfl rfl rfl rfl rfl) rfl ?_)
  (refine nx (aA (gN rfl) rfl rfl rfl rfl rfl) rfl ?_)
  show AWp _ _ _ _ _ _ _
  refine aS (aR ?_)
  (refine nx (aL (gN rfl) rfl rfl rfl rfl rfl rfl rfl rfl rfl rfl rfl rfl) rfl ?_)
  (refine nx (aL (gN rfl) rfl rfl rfl rfl rfl rfl rfl rfl rfl rfl rfl rfl) rfl ?_)
  (refine nx (a_call (gN rfl) rfl rfl rfl rfl rfl (cCmpL_abs w x y hx hy)) rfl ?_)
  (refine nx (a_eql (gN rfl) rfl rfl rfl rfl rfl rfl) rfl ?_)
  (refine nx (aA (gN rfl) rfl rfl rfl rfl rfl) rfl ?_)
  show AWp _ _ _ _ _ _ _
  exact aT (And.intro (.inr rfl) rfl)
def eqF (p : Lt → Lt → Bool) : List Lt → List Lt → Bool
  | [], [] => true
  | x :: c, y :: d => p x y && eqF p c d
  | _, _ => false
theorem eqF_len {p : Lt → Lt → Bool} : ∀ {c d : List Lt}, c.length ≠ d.length → eqF p c d = false
  | [], [], h => absurd rfl h
  | [], _ :: _, _ => rfl
  | _ :: _, [], _ => rfl
  | x :: c, y :: d, h => by rw [eqF, eqF_len (c := c) (d := d) (by simpa using h), Bool.and_false]
theorem eqF_no {p : Lt → Lt → Bool} : ∀ {c d : List Lt} {k : Nat} {x y : Lt}, c[k]? = some x → d[k]? = some y → p x y = false → eqF p c d = false
  | [], _, k, _, _, h, _, _ => by simp at h
  | _ :: _, [], k, _, _, _, h, _ => by simp at h
  | a :: c, b :: d, 0, x, y, h1, h2, h => by
    simp at h1 h2
    subst h1 h2
    rw [eqF, h, Bool.false_and]
  | a :: c, b :: d, k + 1, x, y, h1, h2, h => by rw [eqF, eqF_no (c := c) (d := d) (k := k) (by simpa using h1) (by simpa using h2) h, Bool.and_false]
theorem eqF_yes {p : Lt → Lt → Bool} : ∀ {c d : List Lt}, c.length = d.length → (∀ (k : Nat) (x y : Lt), c[k]? = some x → d[k]? = some y → p x y = true) → eqF p c d = true
  | [], [], _, _ => rfl
  | [], _ :: _, h, _ => by simp at h
  | _ :: _, [], h, _ => by simp at h
  | x :: c, y :: d, h, hp => by
    rw [eqF, hp 0 x y rfl rfl, Bool.true_and]
    exact eqF_yes (by simpa using h) fun k a b h1 h2 => hp (k + 1) a b (by simpa using h1) (by simpa using h2)
theorem eqF_sign (c d : List Lt) : eqF (fun x y => x.neg == y.neg) c d = decide (c.map Lt.neg = d.map Lt.neg) := by
  induction c generalizing d with
  | nil => cases d <;> simp [eqF]
  | cons x c ih => cases d with
    | nil => simp [eqF]
    | cons y d => rw [eqF, ih, Bool.eq_iff_iff]; simp
theorem eqF_same (c d : List Lt) : eqF smL c d = sameC c d := by
  induction c generalizing d with
  | nil => cases d <;> rfl
  | cons x c ih => cases d with
    | nil => rfl
    | cons y d => rw [eqF, ih, smL_sameL]; rfl
-- 
theorem eqF_abs (W : World) (p : Lt → Lt → Bool) (fc : CV) (c d : List Lt) (hl : c.length ≤ 1000000) (hc : ∀ W, ∀ x ∈ c, ∀ y ∈ d, AFunW Tryz.prog W fc [x.cw, y.cw] (.val (.b (p x y)))) : AFun Tryz.prog W 57 [.lst (c.map Lt.cv), .lst (d.map Lt.cv), fc] (.val (.b (eqF p c d))) := by
  have hs1 := Lt.size_all c
  have hs2 := Lt.size_all d
  refine afun_of (rs := [.b (eqF p c d)]) Tryz.func57 Tryz.ntmps57 rfl rfl rfl rfl ?_
  intro w U hW
  refine aS (aR ?_)
  (refine nx (aA (gN rfl) rfl rfl rfl rfl rfl) rfl ?_)
  show AWp _ _ _ _ _ _ _
  refine aS (aS (aR ?_))
  (refine nx (aM (gN rfl) rfl rfl rfl rfl rfl) rfl ?_)
  (refine nx (a_len (gN rfl) rfl rfl rfl rfl rfl rfl rfl) rfl ?_)
  (refine nx (aM (gN rfl) rfl rfl rfl rfl rfl) rfl ?_)
  (refine nx (a_len (gN rfl) rfl rfl rfl rfl rfl rfl rfl) rfl ?_)
  (refine nx (a_neq (gN rfl) rfl rfl rfl rfl rfl rfl) rfl ?_)
  show AWp _ _ _ _ _ _ _
  refine aC rfl (fun h => ?_) (fun h => ?_)
  · have h := of_decide_eq_true h
    rw [List.length_map, List.length_map] at h
    rw [eqF_len (p := p) (c := c) (d := d) (by omega)]
    refine aS (aR ?_)
    (refine nx (aA (gN rfl) rfl rfl rfl rfl rfl) rfl ?_)
    show AWp _ _ _ _ _ _ _
    exact aT (And.intro (.inr rfl) rfl)
  have hll : c.length = d.length := by
    have := of_decide_eq_false h
    simp only [List.length_map, ne_eq, Decidable.not_not] at this
    omega
  refine aK ?_
  show AWp _ _ _ _ _ _ _
  refine aS (aS (aR ?_))
  (refine nx (aM (gN rfl) rfl rfl rfl rfl rfl) rfl ?_)
  (refine nx (a_len (gN rfl) rfl rfl rfl rfl rfl rfl rfl) rfl ?_)
  (refine nx (aM (gN rfl) rfl rfl rfl rfl rfl) rfl ?_)
  show AWp _ _ _ _ _ _ _
  refine aB (awp_countI c.length (fun k => ∀ (i : Nat) (x y : Lt), i < k → c[i]? = some x → d[i]? = some y → p x y = true) (fun k => [(1, .val (.lst (d.map Lt.cv))), (2, .val fc), (15, .val (.lst (c.map Lt.cv))), (16, .val (.i (c.map Lt.cv).length)), (17, .val (.i k))]) (wk_sub ⟨rfl, rfl, rfl, rfl, rfl, trivial⟩) (fun i _ _ hi => by omega) ?_)
  intro k hk hI
  refine aS (aR ?_)
  (refine nx (a_lss (gN rfl) rfl rfl rfl rfl rfl rfl) rfl ?_)
  show AWp _ _ _ _ _ _ _
  refine aS (aC rfl (fun hlt => ?_) (fun hlt => ?_))
  · have hkl : k < c.length := by simpa using hlt
    obtain ⟨x, hx⟩ : ∃ x, c[k]? = some x := ⟨c[k], List.getElem?_eq_getElem hkl⟩
    obtain ⟨y, hy⟩ : ∃ y, d[k]? = some y := ⟨d[k]'(by omega), List.getElem?_eq_getElem (by omega)⟩
    have hx' := Lt.map_at hx
    have hy' := Lt.map_at hy
    refine aK ?_
    show AWp _ _ _ _ _ _ _
    refine aS (aB (aS (aR ?_)))
    (refine nx (aM (gN rfl) rfl rfl rfl rfl rfl) rfl ?_)
    (refine nx (a_index (j := k) (gN rfl) rfl rfl rfl rfl rfl rfl rfl rfl rfl (hx') rfl (hs1)) rfl ?_)
    (refine nx (a_load_ad (gN rfl) rfl rfl rfl rfl rfl rfl rfl rfl rfl) rfl ?_)
    (refine nx (a_alloc (gN rfl) rfl rfl rfl rfl rfl rfl rfl rfl rfl rfl) rfl ?_)
    (refine nx (aA (gN rfl) rfl rfl rfl rfl rfl) rfl ?_)
    (refine nx (aSt (gN rfl) rfl rfl rfl rfl rfl rfl rfl rfl rfl rfl) rfl ?_)
    show AWp _ _ _ _ _ _ _
    refine aS (aR ?_)
    (refine nx (aM (gN rfl) rfl rfl rfl rfl rfl) rfl ?_)
    (refine nx (aM (gN rfl) rfl rfl rfl rfl rfl) rfl ?_)
    (refine nx (a_index (j := k) (gN rfl) rfl rfl rfl rfl rfl rfl rfl rfl rfl (hy') rfl (hs2)) rfl ?_)
    (refine nx (a_load_ad (gN rfl) rfl rfl rfl rfl rfl rfl rfl rfl rfl) rfl ?_)
    (refine nx (a_alloc (gN rfl) rfl rfl rfl rfl rfl rfl rfl rfl rfl rfl) rfl ?_)
    (refine nx (aSt (gN rfl) rfl rfl rfl rfl rfl rfl rfl rfl rfl rfl) rfl ?_)
    show AWp _ _ _ _ _ _ _
    refine aS (aR ?_)
    (refine nx (aM (gN rfl) rfl rfl rfl rfl rfl) rfl ?_)
    (refine nx (aL (gN rfl) rfl rfl rfl rfl rfl rfl rfl rfl rfl rfl rfl rfl) rfl ?_)
    (refine nx (aL (gN rfl) rfl rfl rfl rfl rfl rfl rfl rfl rfl rfl rfl rfl) rfl ?_)
    (refine nx (a_callw (gN rfl) rfl rfl rfl rfl rfl rfl (hc w x (List.mem_of_getElem? hx) y (List.mem_of_getElem? hy))) rfl ?_)
    (refine nx (a_not (gN rfl) rfl rfl rfl rfl rfl) rfl ?_)
    show AWp _ _ _ _ _ _ _
    refine aC rfl (fun hq => ?_) (fun hq => ?_)
    · rw [eqF_no hx hy (by simpa using hq)]
      refine aS (aR ?_)
      (refine nx (aA (gN rfl) rfl rfl rfl rfl rfl) rfl ?_)
      show AWp _ _ _ _ _ _ _
      exact aT (And.intro (.inr rfl) rfl)
    · have hq : p x y = true := by simpa using hq
      refine aK ?_
      show AWp _ _ _ _ _ _ _
      refine aR ?_
      (refine nx (a_add (gN rfl) rfl rfl rfl rfl rfl rfl (by first | omega | (simp only [List.length_map, List.length_append, List.length_cons, List.length_nil] <;> omega) | (simp <;> omega))) rfl ?_)
      (refine nx (aM (gN rfl) rfl rfl rfl rfl rfl) rfl ?_)
      refine ⟨hkl, fun i a b hi h1 h2 => ?_, wk_sub ⟨rfl, rfl, rfl, rfl, rfl, trivial⟩⟩
      rcases Nat.lt_or_ge i k with h3 | h3
      · exact hI i a b h3 h1 h2
      · have : i = k := by omega
        subst this
        rw [hx] at h1
        rw [hy] at h2
        cases h1
        cases h2
        exact hq
  · have hkl : k = c.length := by
      have : ¬ k < c.length := by simpa using hlt
      omega
    subst hkl
    rw [eqF_yes hll fun i x y h1 h2 => hI i x y (by have := (List.getElem?_eq_some_iff.1 h1).1; omega) h1 h2]
    refine aE ?_
    show AWp _ _ _ _ _ _ _
    refine aS (aR ?_)
    (refine nx (aA (gN rfl) rfl rfl rfl rfl rfl) rfl ?_)
    show AWp _ _ _ _ _ _ _
    exact aT (And.intro (.inr rfl) rfl)
-- 
theorem cSame_abs (W : World) (c d : List Lt) (hl : c.length ≤ 1000000) (hc : ∀ l ∈ c, l.rng) (hd : ∀ l ∈ d, l.rng) : AFun Tryz.prog W 29 [.lst (c.map Lt.cv), .lst (d.map Lt.cv)] (.val (.b (sameC c d))) := by
  have h := fun w => eqF_abs w smL (.sc (.func (.func 58) #[] #[])) c d hl (fun W x hx y hy => .inr ⟨_, rfl, cSameL_abs W x y (hc x hx) (hd y hy)⟩)
  rw [eqF_same] at h
  refine afun_of (rs := [.b (sameC c d)]) Tryz.func29 Tryz.ntmps29 rfl rfl rfl rfl ?_
  intro w U hW
  refine aS (aR ?_)
  (refine nx (aA (gN rfl) rfl rfl rfl rfl rfl) rfl ?_)
  show AWp _ _ _ _ _ _ _
  refine aS (aR ?_)
  (refine nx (aM (gN rfl) rfl rfl rfl rfl rfl) rfl ?_)
  (refine nx (aM (gN rfl) rfl rfl rfl rfl rfl) rfl ?_)
  (refine nx (a_call (gN rfl) rfl rfl rfl rfl rfl (h w)) rfl ?_)
  (refine nx (aA (gN rfl) rfl rfl rfl rfl rfl) rfl ?_)
  show AWp _ _ _ _ _ _ _
  exact aT (And.intro (.inr rfl) rfl)
-- 
set_option maxHeartbeats 1000000 in
theorem variantM_abs (W : World) (a b : Tm) (ha : a.rng) (hb : b.rng) (hok : a.ok) (has : a.size ≤ 90000000000) (hbs : b.size ≤ 90000000000) (hnl : a.nv.length ≤ 1000000) (hnb : b.nv.length ≤ 1000000) : AFun Tryz.prog W 59 [a.cw, b.cw] (.val (.b (vntB a b))) := by
  refine afun_of (rs := [.b (vntB a b)]) Tryz.func59 Tryz.ntmps59 rfl rfl rfl rfl ?_
  intro w U hW
  have hV1 := vars_abs w ha (by omega)
  have hV2 := vars_abs w hb (by omega)
  rw [nv_vars] at hV1 hV2
  refine aS (aR ?_)
  (refine nx (a_box (gN rfl) rfl rfl rfl rfl rfl) rfl ?_)
  (refine nx (a_box (gN rfl) rfl rfl rfl rfl rfl) rfl ?_)
  (refine nx (aA (gN rfl) rfl rfl rfl rfl rfl) rfl ?_)
  show AWp _ _ _ _ _ _ _
  refine aS (aD (by kernel_rfl) (by kernel_rfl) ?_)
  (refine nx (aL (gN rfl) rfl rfl rfl rfl rfl rfl rfl rfl rfl rfl rfl rfl) rfl ?_)
  (refine nx (a_call (gN rfl) rfl rfl rfl rfl rfl (hV1)) rfl ?_)
  (refine nx (aL (gN rfl) rfl rfl rfl rfl rfl rfl rfl rfl rfl rfl rfl rfl) rfl ?_)
  (refine nx (a_call (gN rfl) rfl rfl rfl rfl rfl (hV2)) rfl ?_)
  (refine nx (aA (gN rfl) rfl rfl rfl rfl rfl) rfl ?_)
  (refine nx (aA (gN rfl) rfl rfl rfl rfl rfl) rfl ?_)
  refine ⟨by kernel_rfl, ?_⟩
  show AWp _ _ _ _ _ _ _
  have hur := nv_rng hb
  unfold vntB
  obtain ⟨l, hl⟩ : ∃ l, l = a.nv := ⟨_, rfl⟩
  obtain ⟨m, hm⟩ : ∃ m, m = b.nv := ⟨_, rfl⟩
  rw [← hl] at hnl ⊢
  rw [← hm] at hnb hur ⊢
  have hsz := ints_size l
  have hsm := ints_size m
  refine aS (aS (aR ?_))
  (refine nx (aM (gN rfl) rfl rfl rfl rfl rfl) rfl ?_)
  (refine nx (a_len (gN rfl) rfl rfl rfl rfl rfl rfl rfl) rfl ?_)
  (refine nx (aM (gN rfl) rfl rfl rfl rfl rfl) rfl ?_)
  (refine nx (a_len (gN rfl) rfl rfl rfl rfl rfl rfl rfl) rfl ?_)
  (refine nx (a_neq (gN rfl) rfl rfl rfl rfl rfl rfl) rfl ?_)
  show AWp _ _ _ _ _ _ _
  refine aC rfl (fun hc => ?_) (fun hc => aK ?_)
  · have hne : ¬ l.length = m.length := by
      simp only [List.length_map] at hc
      simp at hc
      omega
    rw [show decide (l.length = m.length) = false by simpa using hne, Bool.false_and]
    refine aS (aR ?_)
    (refine nx (aA (gN rfl) rfl rfl rfl rfl rfl) rfl ?_)
    show AWp _ _ _ _ _ _ _
    exact aT (And.intro (.inr rfl) rfl)
  have he : l.length = m.length := by
    simp only [List.length_map] at hc
    simp at hc
    omega
  clear hc
  rw [show decide (l.length = m.length) = true by simpa using he, Bool.true_and]
  obtain ⟨z, hz⟩ : ∃ z, z = zipB l m := ⟨_, rfl⟩
  have hzl : z.length = l.length := by rw [hz]; exact zip_len he
  have hzz := fun k => Bd.size_all (z.take k)
  have hzo : bdsOk z := fun x hx => by
    rw [hz] at hx
    obtain ⟨u, hu, e⟩ := zip_mem hx
    rw [e]
    exact ⟨varT_rng (hur u hu).1 (hur u hu).2, by rw [varT_size]; omega⟩
  rw [← hz]
  show AWp _ _ _ _ _ _ _
  refine aS (aR ?_)
  (refine nx (aA (gN rfl) rfl rfl rfl rfl rfl) rfl ?_)
  show AWp _ _ _ _ _ _ _
  refine aS (aS (aR ?_))
  (refine nx (aM (gN rfl) rfl rfl rfl rfl rfl) rfl ?_)
  (refine nx (a_len (gN rfl) rfl rfl rfl rfl rfl rfl rfl) rfl ?_)
  (refine nx (aM (gN rfl) rfl rfl rfl rfl rfl) rfl ?_)
  show AWp _ _ _ _ _ _ _
  refine aB (awp_count l.length (fun k => [(2, .bp 2 0 []), (100002, .bx a.cw), (3, .bp 3 0 []), (100003, .bx b.cw), (6, .val (.lst (m.map CV.i))), (7, .own (.lst ((z.take k).map Bd.cv)) 200035), (200035, .tok 85 3), (19, .val (.lst (l.map CV.i))), (20, .val (.i (l.map CV.i).length)), (21, .val (.i k))])
    ((wk_nil 7 200035 85 3 rfl rfl rfl rfl rfl rfl rfl).trans (wk_sub ⟨rfl, rfl, rfl, rfl, rfl, rfl, rfl, rfl, rfl, rfl, trivial⟩)) ?_)
  intro k hk
  refine aS (aR ?_)
  (refine nx (a_lss (gN rfl) rfl rfl rfl rfl rfl rfl) rfl ?_)
  show AWp _ _ _ _ _ _ _
  refine aS (aC rfl (fun hc => aK ?_) (fun hc => aE ?_))
  · have hkl : k < l.length := by
      simp only [List.length_map, decide_eq_true_eq] at hc
      omega
    clear hc
    obtain ⟨v, hv⟩ : ∃ v, l[k]? = some v := ⟨l[k], List.getElem?_eq_getElem hkl⟩
    obtain ⟨u, hu⟩ : ∃ u, m[k]? = some u := ⟨m[k], List.getElem?_eq_getElem (by omega)⟩
    have hv' := ints_at hv
    have hu' := ints_at hu
    have hub := hur u (List.mem_of_getElem? hu)
    have hzk : z[k]? = some ⟨v, varT u⟩ := by rw [hz]; exact zip_at hv hu
    show AWp _ _ _ _ _ _ _
    refine aS (aB (aS (aR ?_)))
    (refine nx (aM (gN rfl) rfl rfl rfl rfl rfl) rfl ?_)
    (refine nx (a_index (gN rfl) rfl rfl rfl rfl rfl rfl rfl rfl rfl (by assumption) rfl (by first | assumption | exact sZ rfl | exact Tm.size_all _ | exact Bd.size_all _ | exact ints_size _ | exact bys_size _ | exact Lt.size_all _)) rfl ?_)
    (refine nx (a_load_ad (gN rfl) rfl rfl rfl rfl rfl rfl rfl rfl rfl) rfl ?_)
    (refine nx (aA (gN rfl) rfl rfl rfl rfl rfl) rfl ?_)
    (refine nx (aA (gN rfl) rfl rfl rfl rfl rfl) rfl ?_)
    show AWp _ _ _ _ _ _ _
    refine aR ?_
    (refine nx (aM (gN rfl) rfl rfl rfl rfl rfl) rfl ?_)
    (refine nx (aM (gN rfl) rfl rfl rfl rfl rfl) rfl ?_)
    (refine nx (aM (gN rfl) rfl rfl rfl rfl rfl) rfl ?_)
    (refine nx (aM (gN rfl) rfl rfl rfl rfl rfl) rfl ?_)
    (refine nx (a_index (gN rfl) rfl rfl rfl rfl rfl rfl rfl rfl rfl (by assumption) rfl (by first | assumption | exact sZ rfl | exact Tm.size_all _ | exact Bd.size_all _ | exact ints_size _ | exact bys_size _ | exact Lt.size_all _)) rfl ?_)
    (refine nx (a_load_ad (gN rfl) rfl rfl rfl rfl rfl rfl rfl rfl rfl) rfl ?_)
    (refine nx (a_call (gN rfl) rfl rfl rfl rfl rfl (sVariable_abs w u hub.1 hub.2)) rfl ?_)
    (refine nx (a_build (gN rfl) rfl rfl rfl rfl rfl rfl rfl rfl rfl rfl rfl) rfl ?_)
    (refine nx (a_bslice (gN rfl) rfl rfl rfl rfl rfl rfl rfl rfl rfl rfl rfl rfl rfl) rfl ?_)
    (refine nx (a_app (gN rfl) rfl rfl rfl rfl rfl rfl rfl rfl rfl rfl rfl rfl rfl rfl rfl (by first | assumption | exact sZ rfl | exact Tm.size_all _ | exact Bd.size_all _ | exact ints_size _ | exact bys_size _ | exact Lt.size_all _) (by first | assumption | exact sZ rfl | exact Tm.size_all _ | exact Bd.size_all _ | exact ints_size _ | exact bys_size _ | exact Lt.size_all _) (by first | omega | (simp only [List.length_map, List.length_append, List.length_cons, List.length_nil] <;> omega) | (simp <;> omega))) rfl ?_)
    (refine nx (aA (gN rfl) rfl rfl rfl rfl rfl) rfl ?_)
    show AWp _ _ _ _ _ _ _
    refine aR ?_
    (refine nx (a_add (gN rfl) rfl rfl rfl rfl rfl rfl (by first | omega | (simp only [List.length_map, List.length_append, List.length_cons, List.length_nil] <;> omega) | (simp <;> omega))) rfl ?_)
    (refine nx (aM (gN rfl) rfl rfl rfl rfl rfl) rfl ?_)
    refine ⟨hkl, Wk.trans (wk_sub (s' := [(2, .bp 2 0 []), (100002, .bx a.cw), (3, .bp 3 0 []), (100003, .bx b.cw), (6, .val (.lst (m.map CV.i))), (7, .own (.lst ((z.take (k + 1)).map Bd.cv)) 300035), (300035, .tok 85 3), (19, .val (.lst (l.map CV.i))), (20, .val (.i (l.map CV.i).length)), (21, .val (.i ((k + 1 : Nat) : Int)))]) ⟨rfl, rfl, rfl, rfl, rfl, ?_, rfl, rfl, rfl, rfl, trivial⟩) (wk_ren 300035 200035 rfl rfl rfl rfl)⟩
    rw [List.take_add_one, hzk, List.map_append]
    rfl
  · have hkl : k = z.length := by
      simp only [List.length_map, decide_eq_false_iff_not] at hc
      omega
    subst hkl
    rw [List.take_length]
    show AWp _ _ _ _ _ _ _
    refine aS (aD (by kernel_rfl) (by kernel_rfl) ?_)
    (refine nx (aM (gN rfl) rfl rfl rfl rfl rfl) rfl ?_)
    (refine nx (aL (gN rfl) rfl rfl rfl rfl rfl rfl rfl rfl rfl rfl rfl rfl) rfl ?_)
    (refine nx (a_call (gN rfl) rfl rfl rfl rfl rfl (applyG_abs w z a (by omega) hzo ha hok)) rfl ?_)
    (refine nx (aL (gN rfl) rfl rfl rfl rfl rfl rfl rfl rfl rfl rfl rfl rfl) rfl ?_)
    (refine nx (a_call (gN rfl) rfl rfl rfl rfl rfl (same_abs w (repT_rng ha fun v h1 h2 => (imgB_ok hzo h1 h2).1) hb)) rfl ?_)
    (refine nx (aA (gN rfl) rfl rfl rfl rfl rfl) rfl ?_)
    refine ⟨by kernel_rfl, ?_⟩
    show AWp _ _ _ _ _ _ _
    exact aT (And.intro (.inr rfl) rfl)


def okCl (c : List Lt) : Prop := c.length ≤ 12 ∧ ∀ l ∈ c, (l.a.rng ∧ l.a.ok ∧ l.a.size ≤ 1000) ∧ (l.b.rng ∧ l.b.ok ∧ l.b.size ≤ 1000)
theorem sidL_mem {c : List Lt} {s : Tm} : s ∈ sidL c ↔ ∃ l ∈ c, s = l.a ∨ s = l.b := by
  unfold sidL
  rw [List.mem_flatMap]
  constructor
  · rintro ⟨l, hl, h⟩
    exact ⟨l, hl, by simpa using h⟩
  · rintro ⟨l, hl, h⟩
    exact ⟨l, hl, by simpa using h⟩
theorem okCl.sid {c : List Lt} (h : okCl c) : (sidT c).rng ∧ (sidT c).ok ∧ (sidT c).size ≤ 24001 := by
  have hm : ∀ s ∈ sidL c, s.rng ∧ s.ok ∧ s.size ≤ 1000 := fun s hs => by
    obtain ⟨l, hl, e⟩ := sidL_mem.1 hs
    rcases e with rfl | rfl
    · exact (h.2 l hl).1
    · exact (h.2 l hl).2
  have hl := sidL_len c
  have h1 := h.1
  refine ⟨(Tm.rng_iff _).2 ⟨by show _ ≤ (0 : Int) ∧ (0 : Int) ≤ _; omega, fun s hs => (hm s hs).1⟩, (Tm.ok_iff _).2 ⟨by show (sidL c).length ≤ _; omega, fun s hs => (hm s hs).2.1⟩, ?_⟩
  rw [Tm.size_sym (show ¬ (sidT c).f < 0 by show ¬ (0 : Int) < 0; decide)]
  show 1 + ((sidL c).map Tm.size).sum ≤ _
  have : ∀ L : List Tm, (∀ s ∈ L, s.size ≤ 1000) → (L.map Tm.size).sum ≤ 1000 * L.length := fun L => by
    induction L with
    | nil => intro _; exact Nat.zero_le _
    | cons x L ih =>
      intro g
      rw [List.map_cons, List.sum_cons, List.length_cons]
      have a1 := g x (by simp)
      have a2 := ih fun s hs => g s (List.mem_cons_of_mem _ hs)
      omega
  have := this (sidL c) fun s hs => (hm s hs).2.2
  omega
theorem okCl.nv {c : List Lt} (h : okCl c) : (sidT c).nv.length ≤ 24001 := Nat.le_trans (nv_len _) h.sid.2.2
theorem okCl.rng {c : List Lt} (h : okCl c) : ∀ l ∈ c, l.rng := fun l hl => ⟨(h.2 l hl).1.1, (h.2 l hl).2.1⟩
theorem okCl.ok {c : List Lt} (h : okCl c) : ∀ l ∈ c, l.a.ok ∧ l.b.ok := fun l hl => ⟨(h.2 l hl).1.2.1, (h.2 l hl).2.2.1⟩
-- 
theorem cVnt_abs (W : World) (c d : List Lt) (hc : okCl c) (hd : okCl d) : AFun Tryz.prog W 30 [.lst (c.map Lt.cv), .lst (d.map Lt.cv)] (.val (.b (vntC c d))) := by
  have h := fun w => eqF_abs w (fun x y => x.neg == y.neg) (.sc (.func (.func 56) #[] #[])) c d (by have := hc.1; omega) (fun W x hx y hy => .inr ⟨_, rfl, cSign2_abs W x y⟩)
  rw [eqF_sign] at h
  have h2 := fun w => variantM_abs w (sidT c) (sidT d) hc.sid.1 hd.sid.1 hc.sid.2.1 (by have := hc.sid.2.2; omega) (by have := hd.sid.2.2; omega) (by have := hc.nv; omega) (by have := hd.nv; omega)
  have s1 := fun w => cSides_abs w c (by have := hc.1; omega)
  have s2 := fun w => cSides_abs w d (by have := hd.1; omega)
  unfold vntC
  refine afun_of (rs := [.b (decide (c.map Lt.neg = d.map Lt.neg) && vntB (sidT c) (sidT d))]) Tryz.func30 Tryz.ntmps30 rfl rfl rfl rfl ?_
  intro w U hW
  have h := h w
  refine aS (aR ?_)
  (refine nx (aA (gN rfl) rfl rfl rfl rfl rfl) rfl ?_)
  show AWp _ _ _ _ _ _ _
  cases hs : decide (c.map Lt.neg = d.map Lt.neg) with
  | true =>
    rw [hs] at h
    refine aS (aR ?_)
    (refine nx (aM (gN rfl) rfl rfl rfl rfl rfl) rfl ?_)
    (refine nx (aM (gN rfl) rfl rfl rfl rfl rfl) rfl ?_)
    (refine nx (a_call (gN rfl) rfl rfl rfl rfl rfl (h)) rfl ?_)
    (refine nx (aM (gN rfl) rfl rfl rfl rfl rfl) rfl ?_)
    (refine nx (aM (gd_on rfl rfl rfl rfl (by first | rfl | assumption | (simp; done))) rfl rfl rfl rfl rfl) rfl ?_)
    (refine nx (a_call (gd_on rfl rfl rfl rfl (by first | rfl | assumption | (simp; done))) rfl rfl rfl rfl rfl (s1 w)) rfl ?_)
    (refine nx (aM (gd_on rfl rfl rfl rfl (by first | rfl | assumption | (simp; done))) rfl rfl rfl rfl rfl) rfl ?_)
    (refine nx (a_call (gd_on rfl rfl rfl rfl (by first | rfl | assumption | (simp; done))) rfl rfl rfl rfl rfl (s2 w)) rfl ?_)
    (refine nx (a_call (gd_on rfl rfl rfl rfl (by first | rfl | assumption | (simp; done))) rfl rfl rfl rfl rfl (h2 w)) rfl ?_)
    (refine ⟨_, _, _, aPt (gN rfl) rfl rfl rfl rfl rfl ?hb rfl, rfl, ?_⟩; case hb => (first | rfl | assumption | (simp; done)))
    (refine nx (aA (gN rfl) rfl rfl rfl rfl rfl) rfl ?_)
    show AWp _ _ _ _ _ _ _
    exact aT (And.intro (.inr rfl) rfl)
  | false =>
    rw [hs] at h
    refine aS (aR ?_)
    (refine nx (aM (gN rfl) rfl rfl rfl rfl rfl) rfl ?_)
    (refine nx (aM (gN rfl) rfl rfl rfl rfl rfl) rfl ?_)
    (refine nx (a_call (gN rfl) rfl rfl rfl rfl rfl (h)) rfl ?_)
    (refine nx (aM (gN rfl) rfl rfl rfl rfl rfl) rfl ?_)
    (refine ⟨_, _, _, a_off (go_off rfl rfl rfl rfl (by first | rfl | assumption | (simp; done) | (simp [*]; done))) rfl rfl rfl, rfl, ?_⟩)
    (refine ⟨_, _, _, a_off (go_off rfl rfl rfl rfl (by first | rfl | assumption | (simp; done) | (simp [*]; done))) rfl rfl rfl, rfl, ?_⟩)
    (refine ⟨_, _, _, a_off (go_off rfl rfl rfl rfl (by first | rfl | assumption | (simp; done) | (simp [*]; done))) rfl rfl rfl, rfl, ?_⟩)
    (refine ⟨_, _, _, a_off (go_off rfl rfl rfl rfl (by first | rfl | assumption | (simp; done) | (simp [*]; done))) rfl rfl rfl, rfl, ?_⟩)
    (refine ⟨_, _, _, a_off (go_off rfl rfl rfl rfl (by first | rfl | assumption | (simp; done) | (simp [*]; done))) rfl rfl rfl, rfl, ?_⟩)
    (refine ⟨_, _, _, aPf (gN rfl) rfl rfl rfl rfl rfl ?hb rfl, rfl, ?_⟩; case hb => (first | rfl | assumption | (simp; done)))
    (refine nx (aA (gN rfl) rfl rfl rfl rfl rfl) rfl ?_)
    show AWp _ _ _ _ _ _ _
    exact aT (And.intro (.inr rfl) rfl)
def Lt.z : Lt := ⟨false, ⟨0, []⟩, ⟨0, []⟩⟩
noncomputable abbrev ltZ : CV := .row [.b false, .row [.i 0, .lst []], .row [.i 0, .lst []]]
def bndV (c : List Lt) (g : Int → Int) : List Bd := zipB (sidT c).nv ((nums (sidT c).nv.length).map g)
theorem rep_size1 {img : Int → Tm} (h : ∀ v, ∃ u, img v = varT u) (t : Tm) : (repT img t).size = t.size := by
  have := repT_size img t
  have e : (t.vs.map fun v => (((img v).size : Nat) : Int) - 1).sum = 0 := by
    generalize t.vs = l
    induction l with
    | nil => rfl
    | cons v l ih =>
      obtain ⟨u, hu⟩ := h v
      rw [List.map_cons, List.sum_cons, ih, hu, varT_size]; rfl
  rw [e] at this
  omega
def snL (c : List Lt) : List Sn := c.map fun l => trnS l (lkL l)
end Go.Proofs.YtmeegdomncadpaaGreat
namespace Go.Proofs.YtmeegdomncadpaaGreat
open Go.RowKit
set_option linter.unusedVariables false
set_option linter.unusedSimpArgs false
def alk (x y : Lt) : Prop := (x.a.strip = y.a.strip ∧ x.b.strip = y.b.strip) ∨ (x.a.strip = y.b.strip ∧ x.b.strip = y.a.strip)
def TautQ (c : List Lt) : Prop := (∃ l ∈ c, l.neg = false ∧ l.a.strip = l.b.strip) ∨ ∃ x ∈ c, ∃ y ∈ c, x.neg ≠ y.neg ∧ alk x y
def ttD1 (x y : Lt) : Bool := (x.neg && !y.neg) && (sameL x ⟨true, y.a, y.b⟩ || sameL x ⟨true, y.b, y.a⟩)
def ttD (c : List Lt) : Bool := c.any fun x => (!x.neg && sameT x.a x.b) || c.any (ttD1 x)
end Go.Proofs.YtmeegdomncadpaaGreat
namespace Go.Proofs.YtmeegdomncadpaaGreat
open Go.RowKit
set_option linter.unusedVariables false
set_option linter.unusedSimpArgs false
set_option maxRecDepth 100000
def blkT (t : Tm) : Tm := appR (zipB t.nv ((nums t.nv.length).map fun _ => 0)) t
theorem zip_ok {a b : List Int} : ∀ x ∈ zipB a b, x.t.ok := fun x hx => by
  obtain ⟨u, _, e⟩ := zip_mem hx
  rw [e]
  exact varT_ok u
def okL (l : Lt) : Prop := (l.a.rng ∧ l.a.ok ∧ l.a.size ≤ 1000) ∧ (l.b.rng ∧ l.b.ok ∧ l.b.size ≤ 1000)
theorem whl_cv (l : Lt) : (whlL l).cv = .row [.i (sgZ l.neg), .lst [l.a.cw, l.b.cw]] := by
  rw [Tm.cv_eq]
  show CV.row [.i (sgZ l.neg), .lst ([l.a, l.b].map Tm.cv)] = _
  simp only [List.map_cons, List.map_nil, Tm.cv_eq]
-- 
set_option maxHeartbeats 1000000 in
theorem whole_abs (W : World) (c : List Lt) (hl : c.length ≤ 1000000) : AFun Tryz.prog W 28 [.lst (c.map Lt.cv)] (.val (whlT c).cw) := by
  have hsz := Lt.size_all c
  refine afun_of (rs := [(whlT c).cw]) Tryz.func28 Tryz.ntmps28 rfl rfl rfl rfl ?_
  intro w U hW
  refine aS (aR ?_)
  (refine nx (a_alloc (gN rfl) rfl rfl rfl rfl rfl rfl rfl rfl rfl rfl) rfl ?_)
  show AWp _ _ _ _ _ _ _
  refine aS (aR ?_)
  (refine nx (a_build (gN rfl) rfl rfl rfl rfl rfl rfl rfl rfl rfl rfl rfl) rfl ?_)
  (refine nx (a_alloc (gN rfl) rfl rfl rfl rfl rfl rfl rfl rfl rfl rfl) rfl ?_)
  (refine nx (aSt (gN rfl) rfl rfl rfl rfl rfl rfl rfl rfl rfl rfl) rfl ?_)
  show AWp _ _ _ _ _ _ _
  refine aS (aS (aR ?_))
  (refine nx (aA (gN rfl) rfl rfl rfl rfl rfl) rfl ?_)
  show AWp _ _ _ _ _ _ _
  refine aB (awp_count c.length (fun k => [(0, .val (.lst (c.map Lt.cv))), (2, .bp 2 0 []), (100002, ⟨5, .row [.i 0, .lst []], 1, 0, [1]⟩), (3, .bp 3 0 []), (100003, ⟨5, .row [.i 0, .lst (((c.take k).map whlL).map Tm.cv)], 200034, 0, [1]⟩), (200034, .tok 33 2), (4, .val (.i k))])
    ((wk_nil 100003 200034 33 2 rfl rfl rfl rfl rfl rfl rfl).trans (wk_sub ⟨rfl, rfl, rfl, rfl, rfl, rfl, rfl, trivial⟩)) ?_)
  intro k hk
  refine aS (aS (aR ?_))
  (refine nx (aM (gN rfl) rfl rfl rfl rfl rfl) rfl ?_)
  (refine nx (aM (gN rfl) rfl rfl rfl rfl rfl) rfl ?_)
  (refine nx (a_len (gN rfl) rfl rfl rfl rfl rfl rfl rfl) rfl ?_)
  (refine nx (a_lss (gN rfl) rfl rfl rfl rfl rfl rfl) rfl ?_)
  show AWp _ _ _ _ _ _ _
  refine aC rfl (fun hc => aK ?_) (fun hc => aE ?_)
  · have hkl : k < c.length := by
      simp only [List.length_map, decide_eq_true_eq] at hc
      omega
    clear hc
    obtain ⟨x, hx⟩ : ∃ x, c[k]? = some x := ⟨c[k], List.getElem?_eq_getElem hkl⟩
    have hx' := Lt.map_at hx
    have hsz2 : ∀ y ∈ ((c.take k).map whlL).map Tm.cv, y.size = 2 := Tm.size_all _
    have hl3 : (((c.take k).map whlL).map Tm.cv).length ≤ 1000000 := by rw [List.length_map, List.length_map, List.length_take]; omega
    have hst : ((c.take (k + 1)).map whlL).map Tm.cv = ((c.take k).map whlL).map Tm.cv ++ [.row [.i (sgZ x.neg), .lst [x.a.cw, x.b.cw]]] := by
      rw [List.take_add_one, hx, Option.toList_some, List.map_append, List.map_append, List.map_singleton, List.map_singleton, whl_cv]
    show AWp _ _ _ _ _ _ _
    refine aS (aB (aS (aR ?_)))
    (refine nx (aA (gN rfl) rfl rfl rfl rfl rfl) rfl ?_)
    show AWp _ _ _ _ _ _ _
    refine awp_mid [(0, .val (.lst (c.map Lt.cv))), (2, .bp 2 0 []), (100002, ⟨5, .row [.i 0, .lst []], 1, 0, [1]⟩), (3, .bp 3 0 []), (100003, ⟨5, .row [.i 0, .lst (((c.take k).map whlL).map Tm.cv)], 200034, 0, [1]⟩), (200034, .tok 33 2), (4, .val (.i k)), (5, .val (.i (sgZ x.neg)))] ?_ ?_
    · refine aS (aR ?_)
      (refine nx (aM (gN rfl) rfl rfl rfl rfl rfl) rfl ?_)
      (refine nx (aM (gN rfl) rfl rfl rfl rfl rfl) rfl ?_)
      (refine nx (a_index (j := k) (gN rfl) rfl rfl rfl rfl rfl rfl rfl rfl rfl (hx') rfl (hsz)) rfl ?_)
      (refine nx (a_field_ad (gN rfl) rfl rfl rfl rfl rfl rfl rfl rfl rfl rfl rfl) rfl ?_)
      (refine nx (a_load_ad (gN rfl) rfl rfl rfl rfl rfl rfl rfl rfl rfl) rfl ?_)
      show AWp _ _ _ _ _ _ _
      refine aC rfl (fun hc2 => ?_) (fun hc2 => ?_)
      · have hc2 : x.neg = true := hc2
        refine aR ?_
        (refine nx (aA (gN rfl) rfl rfl rfl rfl rfl) rfl ?_)
        rw [hc2]
        exact wk_sub ⟨rfl, rfl, rfl, rfl, rfl, rfl, rfl, rfl, trivial⟩
      · have hc2 : x.neg = false := hc2
        refine aK ?_
        rw [hc2]
        exact wk_sub ⟨rfl, rfl, rfl, rfl, rfl, rfl, rfl, rfl, trivial⟩
    refine aD (by kernel_rfl) (by kernel_rfl) ?_
    (refine nx (aF (gN rfl) rfl rfl rfl rfl rfl rfl rfl rfl rfl) rfl ?_)
    (refine nx (a_load_tok (gN rfl) rfl rfl rfl rfl rfl rfl rfl rfl rfl rfl rfl rfl rfl) rfl ?_)
    (refine nx (aM (gN rfl) rfl rfl rfl rfl rfl) rfl ?_)
    (refine nx (aM (gN rfl) rfl rfl rfl rfl rfl) rfl ?_)
    (refine nx (aM (gN rfl) rfl rfl rfl rfl rfl) rfl ?_)
    (refine nx (a_index (j := k) (gN rfl) rfl rfl rfl rfl rfl rfl rfl rfl rfl (hx') rfl (hsz)) rfl ?_)
    (refine nx (a_field_ad (gN rfl) rfl rfl rfl rfl rfl rfl rfl rfl rfl rfl rfl) rfl ?_)
    (refine nx (a_load_ad (gN rfl) rfl rfl rfl rfl rfl rfl rfl rfl rfl) rfl ?_)
    (refine nx (aM (gN rfl) rfl rfl rfl rfl rfl) rfl ?_)
    (refine nx (aM (gN rfl) rfl rfl rfl rfl rfl) rfl ?_)
    (refine nx (a_index (j := k) (gN rfl) rfl rfl rfl rfl rfl rfl rfl rfl rfl (hx') rfl (hsz)) rfl ?_)
    (refine nx (a_field_ad (gN rfl) rfl rfl rfl rfl rfl rfl rfl rfl rfl rfl rfl) rfl ?_)
    (refine nx (a_load_ad (gN rfl) rfl rfl rfl rfl rfl rfl rfl rfl rfl) rfl ?_)
    (refine nx (a_bslice (gN rfl) rfl rfl rfl rfl rfl rfl rfl rfl rfl rfl rfl rfl rfl) rfl ?_)
    (refine nx (a_build (gN rfl) rfl rfl rfl rfl rfl rfl rfl rfl rfl rfl rfl) rfl ?_)
    (refine nx (a_bslice (gN rfl) rfl rfl rfl rfl rfl rfl rfl rfl rfl rfl rfl rfl rfl) rfl ?_)
    (refine nx (a_app (gN rfl) rfl rfl rfl rfl rfl rfl rfl rfl rfl rfl rfl rfl rfl rfl rfl (by first | assumption | exact sZ rfl | exact Tm.size_all _ | exact Bd.size_all _ | exact ints_size _ | exact bys_size _ | exact Lt.size_all _) (by first | assumption | exact sZ rfl | exact Tm.size_all _ | exact Bd.size_all _ | exact ints_size _ | exact bys_size _ | exact Lt.size_all _) (by first | omega | (simp only [List.length_map, List.length_append, List.length_cons, List.length_nil] <;> omega) | (simp <;> omega))) rfl ?_)
    (refine nx (aF (gN rfl) rfl rfl rfl rfl rfl rfl rfl rfl rfl) rfl ?_)
    (refine nx (a_store (gN rfl) rfl rfl rfl rfl rfl rfl rfl rfl rfl rfl) rfl ?_)
    refine ⟨by kernel_rfl, ?_⟩
    show AWp _ _ _ _ _ _ _
    refine aR ?_
    (refine nx (aM (gN rfl) rfl rfl rfl rfl rfl) rfl ?_)
    (refine nx (a_add (gN rfl) rfl rfl rfl rfl rfl rfl (by first | omega | (simp only [List.length_map, List.length_append, List.length_cons, List.length_nil] <;> omega) | (simp <;> omega))) rfl ?_)
    (refine nx (aA (gN rfl) rfl rfl rfl rfl rfl) rfl ?_)
    refine ⟨hkl, Wk.trans (wk_sub (s' := [(0, .val (.lst (c.map Lt.cv))), (2, .bp 2 0 []), (100002, ⟨5, .row [.i 0, .lst []], 1, 0, [1]⟩), (3, .bp 3 0 []), (100003, ⟨5, .row [.i 0, .lst (((c.take (k + 1)).map whlL).map Tm.cv)], 300034, 0, [1]⟩), (300034, .tok 33 2), (4, .val (.i ((k + 1 : Nat) : Int)))]) ⟨rfl, rfl, rfl, rfl, ?_, rfl, rfl, trivial⟩) (wk_ren 300034 200034 rfl rfl rfl rfl)⟩
    rw [hst]
    rfl
  · have hkl : k = c.length := by
      simp only [List.length_map, decide_eq_false_iff_not] at hc
      omega
    subst hkl
    rw [List.take_length]
    show AWp _ _ _ _ _ _ _
    refine aS (aR ?_)
    (refine nx (aL (gN rfl) rfl rfl rfl rfl rfl rfl rfl rfl rfl rfl rfl rfl) rfl ?_)
    (refine nx (aSt (gN rfl) rfl rfl rfl rfl rfl rfl rfl rfl rfl rfl) rfl ?_)
    show AWp _ _ _ _ _ _ _
    exact aT (And.intro (.inr rfl) rfl)
theorem whl_rng {c : List Lt} (h : okCl c) : (whlT c).rng ∧ (whlT c).ok ∧ (whlT c).size ≤ 24013 := by
  have hl := h.1
  refine ⟨(Tm.rng_iff _).2 ⟨by show _ ≤ (0 : Int) ∧ (0 : Int) ≤ _; omega, fun s hs => ?_⟩, (Tm.ok_iff _).2 ⟨by show (c.map whlL).length ≤ _; rw [List.length_map]; omega, fun s hs => ?_⟩, ?_⟩
  · obtain ⟨l, hl, rfl⟩ := List.mem_map.1 hs
    refine (Tm.rng_iff _).2 ⟨by show _ ≤ sgZ l.neg ∧ sgZ l.neg ≤ _; unfold sgZ; split <;> omega, fun t ht => ?_⟩
    have ht : t = l.a ∨ t = l.b := by simpa [whlL] using ht
    rcases ht with rfl | rfl
    · exact (h.2 l hl).1.1
    · exact (h.2 l hl).2.1
  · obtain ⟨l, hl, rfl⟩ := List.mem_map.1 hs
    refine (Tm.ok_iff _).2 ⟨by show 2 ≤ _; omega, fun t ht => ?_⟩
    have ht : t = l.a ∨ t = l.b := by simpa [whlL] using ht
    rcases ht with rfl | rfl
    · exact (h.2 l hl).1.2.1
    · exact (h.2 l hl).2.2.1
  · rw [Tm.size_sym (show ¬ (whlT c).f < 0 by show ¬ (0 : Int) < 0; decide)]
    show 1 + ((c.map whlL).map Tm.size).sum ≤ _
    have : ∀ c : List Lt, (∀ l ∈ c, (l.a.rng ∧ l.a.ok ∧ l.a.size ≤ 1000) ∧ (l.b.rng ∧ l.b.ok ∧ l.b.size ≤ 1000)) → ((c.map whlL).map Tm.size).sum ≤ 2001 * c.length := fun c => by
      induction c with
      | nil => intro _; exact Nat.zero_le _
      | cons x c ih =>
        intro g
        rw [List.map_cons, List.map_cons, List.sum_cons, List.length_cons]
        have a1 := g x (by simp)
        have a2 := ih fun s hs => g s (List.mem_cons_of_mem _ hs)
        have a3 : (whlL x).size = 1 + (x.a.size + x.b.size) := by
          rw [Tm.size_sym (t := whlL x) (sgZ_nn _)]
          show 1 + ([x.a, x.b].map Tm.size).sum = _
          simp
        omega
    have := this c h.2
    omega
def renB (c : List Lt) (k : Int) : List Bd := zipB (sidT c).nv ((sidT c).nv.map fun v => v + k)
def topD (l : List Int) : Int := l.foldl max (-1)

section
variable {P : Program} {w0 : World} {U0 : UX} {nt : Nat} {ops : Array Oper} {o : Oper} {S : Nat → Option AV} {gs : List Nat} {d : Nat}
end

def topC (c : List Lt) : Int := c.foldl (fun m l => max (max m (topF l.a.flat)) (topF l.b.flat)) (-1)
def nothL (l : Lt) : Bool := l.neg && sameT l.a l.b
def bareL (c : List Lt) : List Lt := (c.filter fun l => !nothL l).map Lt.strip
theorem fine_okCl {c : List Lt} {most : Nat} {size : Int} (h0 : 0 ≤ size) (h1 : size ≤ 60) (hm : most ≤ 12) (h : fineC c most size = true) : okCl c ∧ (∀ l ∈ c, l.a.sm ∧ l.b.sm) ∧ ∀ l ∈ c, (l.a.size : Int) ≤ size ∧ (l.b.size : Int) ≤ size := by
  obtain ⟨hl, hf⟩ := fineC_facts h0 h1 h
  refine ⟨⟨by omega, fun l hm => ?_⟩, fun l hm => ⟨(hf l hm).1.1.1, (hf l hm).2.1.1⟩, fun l hm => ⟨(hf l hm).1.2.2, (hf l hm).2.2.2⟩⟩
  obtain ⟨⟨⟨_, r1, o1⟩, _, s1⟩, ⟨_, r2, o2⟩, _, s2⟩ := hf l hm
  exact ⟨⟨r1, o1, by omega⟩, r2, o2, by omega⟩
theorem sm_vs {c : List Lt} (h : ∀ l ∈ c, l.a.sm ∧ l.b.sm) : ∀ v ∈ (sidT c).vs, 0 ≤ v ∧ v < 1000 := fun v hv => by
  rw [sid_vs, List.mem_flatMap] at hv
  obtain ⟨l, hl, hv⟩ := hv
  rcases List.mem_append.1 hv with hv | hv
  · exact ⟨vs_nonneg _ v hv, vs_le (fun s hs => (Tm.sm_flat (h l hl).1 s hs).1) v hv⟩
  · exact ⟨vs_nonneg _ v hv, vs_le (fun s hs => (Tm.sm_flat (h l hl).2 s hs).1) v hv⟩
theorem whl_size {c : List Lt} {B : Nat} (h : ∀ l ∈ c, l.a.size ≤ B ∧ l.b.size ≤ B) : (whlT c).size ≤ 1 + (2 * B + 1) * c.length := by
  rw [Tm.size_sym (show ¬ (whlT c).f < 0 by show ¬ (0 : Int) < 0; decide)]
  show 1 + ((c.map whlL).map Tm.size).sum ≤ _
  induction c with
  | nil => exact Nat.le_refl _
  | cons x c ih =>
    rw [List.map_cons, List.map_cons, List.sum_cons, List.length_cons]
    have a1 := h x (by simp)
    have a2 := ih fun s hs => h s (List.mem_cons_of_mem _ hs)
    have a3 : (whlL x).size = 1 + (x.a.size + x.b.size) := by
      rw [Tm.size_sym (t := whlL x) (sgZ_nn _)]
      show 1 + ([x.a, x.b].map Tm.size).sum = _
      simp
    rw [Nat.mul_add, Nat.mul_one]
    omega
theorem okCl.repG {c : List Lt} (hn : okCl c) {img : Int → Tm} (h : ∀ v, ∃ u, img v = varT u) (hr : ∀ v, 0 ≤ v → v ≤ 9223372036854775807 → (img v).rng) : okCl (c.map (Lt.rep img)) := by
  refine ⟨by rw [List.length_map]; exact hn.1, fun l hl => ?_⟩
  obtain ⟨x, hx, rfl⟩ := List.mem_map.1 hl
  have key : ∀ t : Tm, (t.rng ∧ t.ok ∧ t.size ≤ 1000) → ((repT img t).rng ∧ (repT img t).ok ∧ (repT img t).size ≤ 1000) := fun t ht => by
    refine ⟨repT_rng ht.1 hr, repT_ok ht.2.1 fun v => ?_, by rw [rep_size1 h]; exact ht.2.2⟩
    obtain ⟨u, hu⟩ := h v
    rw [hu]
    exact varT_ok u
  exact ⟨key _ (hn.2 x hx).1, key _ (hn.2 x hx).2⟩
theorem up_img {k : Int} (hk : 0 ≤ k) : (∀ v, ∃ u, varT (upV k v) = varT u) ∧ ∀ v, 0 ≤ v → v ≤ 9223372036854775807 → (varT (upV k v)).rng :=
  ⟨fun v => ⟨_, rfl⟩, fun v h1 h2 => varT_rng (upV_ok h1 h2 hk).1 (upV_ok h1 h2 hk).2⟩
theorem vnt_up {c : List Lt} (h : ∀ l ∈ c, l.a.sm ∧ l.b.sm) {k : Int} (hk : 0 ≤ k ∧ k ≤ 255) : vntC c (c.map (Lt.rep fun v => varT (upV k v))) = true := by
  unfold vntC
  rw [rep_neg, decide_eq_true rfl, Bool.true_and, ← rep_sid]
  refine vnt_ren (sidT c) (fun v => upV k v) (fun v hv => ?_) (fun x hx z hz e => ?_)
  · have := sm_vs h v hv; unfold upV; omega
  · have := sm_vs h x hx; have := sm_vs h z hz; unfold upV at e; omega
theorem whl_canon (c : List Lt) : (appR (zipB (whlT c).nv (nums (whlT c).nv.length)) (whlT c)).strip = (canT (whlT c)).strip := appR_strip _ _
end Go.Proofs.YtmeegdomncadpaaGreat
