/-
  ClB RwRules KbMath3 MtParts MtParts2 MtParts3 RwLess MtAlive MtDoc MtRef MtVs AbZero RwLive RwAll0 RwAlV
-/
import Derived.Test.YtekboofbedakcaaMg6
import Derived.Test.YtekboofbedakcaaMg4
import Derived.Test.YtekboofbedakcaaMg5
import Derived.Test.YtekboofbedakcaaMg3
import Derived.Test.YtekboofbedakcaaMg2
namespace Go.Proofs.Ytekboofbedakcaa
open Go.RowKit
set_option linter.unusedVariables false
set_option linter.unusedSimpArgs false
set_option maxRecDepth 100000
def finL (size : Int) (l : Lt) : Bool := decide (0 ≤ smallT l.a size 8) && decide (0 ≤ smallT l.b size 8)
def fineC (c : List Lt) (most : Nat) (size : Int) : Bool := decide (c.length ≤ most) && c.all (finL size)
-- 
set_option maxHeartbeats 1000000 in
theorem fine11_abs (W : World) (c : List Lt) (most : Nat) (size : Int) (hm : most ≤ 1000) (h0 : 0 ≤ size) (h1 : size ≤ 60) (hr : okC c) : AFun Try.prog W 9 [.lst (c.map Lt.cv), .i (most : Int), .i size] (.val (.b (fineC c most size))) := by
  have hsz := Lt.size_all c
  refine afun_of (rs := [.b (fineC c most size)]) Try.func9 Try.ntmps9 rfl rfl rfl rfl ?_
  intro w U hW
  refine aS (aR ?_)
  (refine nx (aA (gN rfl) rfl rfl rfl rfl rfl) rfl ?_)
  show AWp _ _ _ _ _ _ _
  refine aS (aS (aR ?_))
  (refine nx (aM (gN rfl) rfl rfl rfl rfl rfl) rfl ?_)
  (refine nx (a_len (gN rfl) rfl rfl rfl rfl rfl rfl rfl) rfl ?_)
  (refine nx (aM (gN rfl) rfl rfl rfl rfl rfl) rfl ?_)
  (refine nx (a_gtr (gN rfl) rfl rfl rfl rfl rfl rfl) rfl ?_)
  show AWp _ _ _ _ _ _ _
  refine aC rfl (fun hc => ?_) (fun hc => ?_)
  · have hno : fineC c most size = false := by
      have := of_decide_eq_true hc
      rw [List.length_map] at this
      unfold fineC
      rw [show decide (c.length ≤ most) = false by rw [decide_eq_false_iff_not]; omega]
      rfl
    rw [hno]
    refine aS (aR ?_)
    (refine nx (aA (gN rfl) rfl rfl rfl rfl rfl) rfl ?_)
    show AWp _ _ _ _ _ _ _
    exact aT (And.intro (.inr rfl) rfl)
  have hl : c.length ≤ most := by
    have := of_decide_eq_false hc
    rw [List.length_map] at this
    omega
  refine aK ?_
  show AWp _ _ _ _ _ _ _
  refine aS (aS (aR ?_))
  (refine nx (aA (gN rfl) rfl rfl rfl rfl rfl) rfl ?_)
  show AWp _ _ _ _ _ _ _
  refine aB (awp_countI c.length (fun k => ∀ l ∈ c.take k, finL size l = true) (fun k => [(0, .val (.lst (c.map Lt.cv))), (2, .val (.i size)), (7, .val (.i k))]) (wk_sub ⟨rfl, rfl, rfl, trivial⟩) (by simp) ?_)
  intro k hk hI
  refine aS (aS (aR ?_))
  (refine nx (aM (gN rfl) rfl rfl rfl rfl rfl) rfl ?_)
  (refine nx (aM (gN rfl) rfl rfl rfl rfl rfl) rfl ?_)
  (refine nx (a_len (gN rfl) rfl rfl rfl rfl rfl rfl rfl) rfl ?_)
  (refine nx (a_lss (gN rfl) rfl rfl rfl rfl rfl rfl) rfl ?_)
  show AWp _ _ _ _ _ _ _
  refine aC rfl (fun hlt => ?_) (fun hlt => ?_)
  · have hkl : k < c.length := by simpa using hlt
    obtain ⟨x, hx⟩ : ∃ x, c[k]? = some x := ⟨c[k], List.getElem?_eq_getElem hkl⟩
    have hx' := Lt.map_at hx
    have hxm := List.mem_of_getElem? hx
    have sa := small_abs w x.a size 8 (hr x hxm).1 h0 h1 (by decide) (by decide)
    have sb := small_abs w x.b size 8 (hr x hxm).2 h0 h1 (by decide) (by decide)
    have hno : finL size x = false → fineC c most size = false := fun h => by
      unfold fineC
      rw [show c.all (finL size) = false from List.all_eq_false.2 ⟨x, hxm, by rw [h]; simp⟩, Bool.and_false]
    refine aK ?_
    show AWp _ _ _ _ _ _ _
    by_cases ha : smallT x.a size 8 < 0
    · have ga : decide (smallT x.a size 8 < 0) = true := by simpa using ha
      rw [hno (by unfold finL; rw [show decide (0 ≤ smallT x.a size 8) = false by rw [decide_eq_false_iff_not]; omega]; rfl)]
      refine aS (aB (aS (aR ?_)))
      (refine nx (aM (gN rfl) rfl rfl rfl rfl rfl) rfl ?_)
      (refine nx (aM (gN rfl) rfl rfl rfl rfl rfl) rfl ?_)
      (refine nx (a_index (j := k) (gN rfl) rfl rfl rfl rfl rfl rfl rfl rfl rfl (hx') rfl (hsz)) rfl ?_)
      (refine nx (a_field_ad (gN rfl) rfl rfl rfl rfl rfl rfl rfl rfl rfl rfl rfl) rfl ?_)
      (refine nx (a_load_ad (gN rfl) rfl rfl rfl rfl rfl rfl rfl rfl rfl) rfl ?_)
      (refine nx (aM (gN rfl) rfl rfl rfl rfl rfl) rfl ?_)
      (refine nx (a_call (gN rfl) rfl rfl rfl rfl rfl (sa)) rfl ?_)
      (refine nx (a_lss (gN rfl) rfl rfl rfl rfl rfl rfl) rfl ?_)
      (refine nx (aM (gN rfl) rfl rfl rfl rfl rfl) rfl ?_)
      (refine ⟨_, _, _, a_off (go_off rfl rfl rfl rfl (by first | rfl | assumption | (simp; done) | (simp [*]; done))) rfl rfl rfl, rfl, ?_⟩)
      (refine ⟨_, _, _, a_off (go_off rfl rfl rfl rfl (by first | rfl | assumption | (simp; done) | (simp [*]; done))) rfl rfl rfl, rfl, ?_⟩)
      (refine ⟨_, _, _, a_off (go_off rfl rfl rfl rfl (by first | rfl | assumption | (simp; done) | (simp [*]; done))) rfl rfl rfl, rfl, ?_⟩)
      (refine ⟨_, _, _, a_off (go_off rfl rfl rfl rfl (by first | rfl | assumption | (simp; done) | (simp [*]; done))) rfl rfl rfl, rfl, ?_⟩)
      (refine ⟨_, _, _, a_off (go_off rfl rfl rfl rfl (by first | rfl | assumption | (simp; done) | (simp [*]; done))) rfl rfl rfl, rfl, ?_⟩)
      (refine ⟨_, _, _, a_off (go_off rfl rfl rfl rfl (by first | rfl | assumption | (simp; done) | (simp [*]; done))) rfl rfl rfl, rfl, ?_⟩)
      (refine ⟨_, _, _, a_off (go_off rfl rfl rfl rfl (by first | rfl | assumption | (simp; done) | (simp [*]; done))) rfl rfl rfl, rfl, ?_⟩)
      (refine ⟨_, _, _, a_off (go_off rfl rfl rfl rfl (by first | rfl | assumption | (simp; done) | (simp [*]; done))) rfl rfl rfl, rfl, ?_⟩)
      (refine ⟨_, _, _, aPt (gN rfl) rfl rfl rfl rfl rfl ?hb rfl, rfl, ?_⟩; case hb => (first | rfl | assumption | (simp; done)))
      show AWp _ _ _ _ _ _ _
      refine aC rfl (fun hc2 => ?_) (fun hc2 => by cases hc2)
      refine aS (aR ?_)
      (refine nx (aA (gN rfl) rfl rfl rfl rfl rfl) rfl ?_)
      show AWp _ _ _ _ _ _ _
      exact aT (And.intro (.inr rfl) rfl)
    · have ga : decide (smallT x.a size 8 < 0) = false := by simpa using ha
      refine aS (aB (aS (aR ?_)))
      (refine nx (aM (gN rfl) rfl rfl rfl rfl rfl) rfl ?_)
      (refine nx (aM (gN rfl) rfl rfl rfl rfl rfl) rfl ?_)
      (refine nx (a_index (j := k) (gN rfl) rfl rfl rfl rfl rfl rfl rfl rfl rfl (hx') rfl (hsz)) rfl ?_)
      (refine nx (a_field_ad (gN rfl) rfl rfl rfl rfl rfl rfl rfl rfl rfl rfl rfl) rfl ?_)
      (refine nx (a_load_ad (gN rfl) rfl rfl rfl rfl rfl rfl rfl rfl rfl) rfl ?_)
      (refine nx (aM (gN rfl) rfl rfl rfl rfl rfl) rfl ?_)
      (refine nx (a_call (gN rfl) rfl rfl rfl rfl rfl (sa)) rfl ?_)
      (refine nx (a_lss (gN rfl) rfl rfl rfl rfl rfl rfl) rfl ?_)
      (refine nx (aM (gN rfl) rfl rfl rfl rfl rfl) rfl ?_)
      (refine nx (aM (gd_on rfl rfl rfl rfl (by first | rfl | assumption | (simp; done))) rfl rfl rfl rfl rfl) rfl ?_)
      (refine nx (aM (gd_on rfl rfl rfl rfl (by first | rfl | assumption | (simp; done))) rfl rfl rfl rfl rfl) rfl ?_)
      (refine nx (a_index (j := k) (gd_on rfl rfl rfl rfl (by first | rfl | assumption | (simp; done))) rfl rfl rfl rfl rfl rfl rfl rfl rfl (hx') rfl (hsz)) rfl ?_)
      (refine nx (a_field_ad (gd_on rfl rfl rfl rfl (by first | rfl | assumption | (simp; done))) rfl rfl rfl rfl rfl rfl rfl rfl rfl rfl rfl) rfl ?_)
      (refine nx (a_load_ad (gd_on rfl rfl rfl rfl (by first | rfl | assumption | (simp; done))) rfl rfl rfl rfl rfl rfl rfl rfl rfl) rfl ?_)
      (refine nx (aM (gd_on rfl rfl rfl rfl (by first | rfl | assumption | (simp; done))) rfl rfl rfl rfl rfl) rfl ?_)
      (refine nx (a_call (gd_on rfl rfl rfl rfl (by first | rfl | assumption | (simp; done))) rfl rfl rfl rfl rfl (sb)) rfl ?_)
      (refine nx (a_lss (gd_on rfl rfl rfl rfl (by first | rfl | assumption | (simp; done))) rfl rfl rfl rfl rfl rfl) rfl ?_)
      (refine ⟨_, _, _, aPf (gN rfl) rfl rfl rfl rfl rfl ?hb rfl, rfl, ?_⟩; case hb => (first | rfl | assumption | (simp; done)))
      show AWp _ _ _ _ _ _ _
      refine aC rfl (fun hc2 => ?_) (fun hc2 => ?_)
      · have hb := of_decide_eq_true hc2
        rw [hno (by unfold finL; rw [show decide (0 ≤ smallT x.b size 8) = false by rw [decide_eq_false_iff_not]; omega]; simp)]
        refine aS (aR ?_)
        (refine nx (aA (gN rfl) rfl rfl rfl rfl rfl) rfl ?_)
        show AWp _ _ _ _ _ _ _
        exact aT (And.intro (.inr rfl) rfl)
      · have hb := of_decide_eq_false hc2
        refine aK ?_
        show AWp _ _ _ _ _ _ _
        refine aR ?_
        (refine nx (aM (gN rfl) rfl rfl rfl rfl rfl) rfl ?_)
        (refine nx (a_add (gN rfl) rfl rfl rfl rfl rfl rfl (by first | omega | (simp only [List.length_map, List.length_append, List.length_cons, List.length_nil] <;> omega) | (simp <;> omega))) rfl ?_)
        (refine nx (aA (gN rfl) rfl rfl rfl rfl rfl) rfl ?_)
        refine ⟨hkl, ?_, wk_sub ⟨rfl, rfl, rfl, trivial⟩⟩
        intro y hy
        rw [List.take_add_one, hx, List.mem_append] at hy
        rcases hy with hy | hy
        · exact hI y hy
        · simp at hy
          rw [hy]
          unfold finL
          rw [show decide (0 ≤ smallT x.a size 8) = true by rw [decide_eq_true_eq]; omega, show decide (0 ≤ smallT x.b size 8) = true by rw [decide_eq_true_eq]; omega]
          rfl
  · have hkl : k = c.length := by
      have : ¬ k < c.length := by simpa using hlt
      omega
    subst hkl
    rw [List.take_length] at hI
    have hyes : fineC c most size = true := by
      unfold fineC
      rw [show decide (c.length ≤ most) = true by simpa using hl, Bool.true_and]
      exact List.all_eq_true.2 hI
    rw [hyes]
    refine aE ?_
    show AWp _ _ _ _ _ _ _
    refine aS (aR ?_)
    (refine nx (aA (gN rfl) rfl rfl rfl rfl rfl) rfl ?_)
    show AWp _ _ _ _ _ _ _
    exact aT (And.intro (.inr rfl) rfl)
theorem fineC_facts {c : List Lt} {most : Nat} {size : Int} (h0 : 0 ≤ size) (h1 : size ≤ 60) (h : fineC c most size = true) : c.length ≤ most ∧ ∀ l ∈ c, ((l.a.sm ∧ l.a.rng ∧ l.a.ok) ∧ (l.a.wt : Int) ≤ size ∧ (l.a.size : Int) ≤ size) ∧ ((l.b.sm ∧ l.b.rng ∧ l.b.ok) ∧ (l.b.wt : Int) ≤ size ∧ (l.b.size : Int) ≤ size) := by
  unfold fineC at h
  rw [Bool.and_eq_true, decide_eq_true_eq] at h
  refine ⟨h.1, fun l hl => ?_⟩
  have hf := List.all_eq_true.1 h.2 l hl
  unfold finL at hf
  rw [Bool.and_eq_true, decide_eq_true_eq, decide_eq_true_eq] at hf
  have key : ∀ t : Tm, 0 ≤ smallT t size 8 → (t.sm ∧ t.rng ∧ t.ok) ∧ (t.wt : Int) ≤ size ∧ (t.size : Int) ≤ size := fun t ht => by
    have hsm := small_sm t _ _ ht
    have hwt : (t.wt : Int) ≤ size := by have := (small_bounds t size 8 h0).2.2 ht; omega
    have := t.size_wt
    exact ⟨⟨hsm, Tm.sm_rng hsm, Tm.wt_ok (t := t) (by omega)⟩, hwt, by omega⟩
  exact ⟨key _ hf.1, key _ hf.2⟩
-- 
set_option maxHeartbeats 1000000 in
theorem of11I_abs (W : World) (c : List Lt) (hl : c.length ≤ 1000000) (hc : ∀ l ∈ c, l.a.ok ∧ l.b.ok) : AFun Try.prog W 17 [.lst (c.map Lt.cv)] (.val (.lst ((c.map id).map Lt.cv))) := by
  have hsz := Lt.size_all c
  refine afun_of (rs := [.lst ((c.map id).map Lt.cv)]) Try.func17 Try.ntmps17 rfl rfl rfl rfl ?_
  intro w U hW
  refine aS (aR ?_)
  (refine nx (aA (gN rfl) rfl rfl rfl rfl rfl) rfl ?_)
  show AWp _ _ _ _ _ _ _
  refine aS (aR ?_)
  (refine nx (aA (gN rfl) rfl rfl rfl rfl rfl) rfl ?_)
  show AWp _ _ _ _ _ _ _
  refine aS (aS (aR ?_))
  (refine nx (aA (gN rfl) rfl rfl rfl rfl rfl) rfl ?_)
  show AWp _ _ _ _ _ _ _
  refine aB (awp_count c.length (fun k => [(0, .val (.lst (c.map Lt.cv))), (3, .own (.lst (((c.take k).map id).map Lt.cv)) 200031), (200031, .tok 66 5), (4, .val (.i k))]) ((wk_nil 3 200031 66 5 rfl rfl rfl rfl rfl rfl rfl).trans (wk_sub ⟨rfl, rfl, rfl, rfl, trivial⟩)) ?_)
  intro k hk
  have hks := Lt.size_all ((c.take k).map id)
  refine aS (aS (aR ?_))
  (refine nx (aM (gN rfl) rfl rfl rfl rfl rfl) rfl ?_)
  (refine nx (aM (gN rfl) rfl rfl rfl rfl rfl) rfl ?_)
  (refine nx (a_len (gN rfl) rfl rfl rfl rfl rfl rfl rfl) rfl ?_)
  (refine nx (a_lss (gN rfl) rfl rfl rfl rfl rfl rfl) rfl ?_)
  show AWp _ _ _ _ _ _ _
  refine aC rfl (fun hlt => ?_) (fun hlt => ?_)
  · have hkl : k < c.length := by simpa using hlt
    obtain ⟨x, hx⟩ : ∃ x, c[k]? = some x := ⟨c[k], List.getElem?_eq_getElem hkl⟩
    have hx' := Lt.map_at hx
    have hxm := List.mem_of_getElem? hx
    have hkn : (((c.take k).map id).map Lt.cv).length ≤ 1000000 := by rw [List.length_map, List.length_map, List.length_take]; omega
    refine aK ?_
    show AWp _ _ _ _ _ _ _
    refine aS (aB (aD (by kernel_rfl) (by kernel_rfl) ?_))
    (refine nx (aM (gN rfl) rfl rfl rfl rfl rfl) rfl ?_)
    (refine nx (aM (gN rfl) rfl rfl rfl rfl rfl) rfl ?_)
    (refine nx (aM (gN rfl) rfl rfl rfl rfl rfl) rfl ?_)
    (refine nx (a_index (j := k) (gN rfl) rfl rfl rfl rfl rfl rfl rfl rfl rfl (hx') rfl (hsz)) rfl ?_)
    (refine nx (a_field_ad (gN rfl) rfl rfl rfl rfl rfl rfl rfl rfl rfl rfl rfl) rfl ?_)
    (refine nx (a_load_ad (gN rfl) rfl rfl rfl rfl rfl rfl rfl rfl rfl) rfl ?_)
    (refine nx (aM (gN rfl) rfl rfl rfl rfl rfl) rfl ?_)
    (refine nx (aM (gN rfl) rfl rfl rfl rfl rfl) rfl ?_)
    (refine nx (a_index (j := k) (gN rfl) rfl rfl rfl rfl rfl rfl rfl rfl rfl (hx') rfl (hsz)) rfl ?_)
    (refine nx (a_field_ad (gN rfl) rfl rfl rfl rfl rfl rfl rfl rfl rfl rfl rfl) rfl ?_)
    (refine nx (a_load_ad (gN rfl) rfl rfl rfl rfl rfl rfl rfl rfl rfl) rfl ?_)
    (refine nx (a_call (gN rfl) rfl rfl rfl rfl rfl (of_abs w x.a (hc x hxm).1)) rfl ?_)
    (refine nx (aM (gN rfl) rfl rfl rfl rfl rfl) rfl ?_)
    (refine nx (aM (gN rfl) rfl rfl rfl rfl rfl) rfl ?_)
    (refine nx (a_index (j := k) (gN rfl) rfl rfl rfl rfl rfl rfl rfl rfl rfl (hx') rfl (hsz)) rfl ?_)
    (refine nx (a_field_ad (gN rfl) rfl rfl rfl rfl rfl rfl rfl rfl rfl rfl rfl) rfl ?_)
    (refine nx (a_load_ad (gN rfl) rfl rfl rfl rfl rfl rfl rfl rfl rfl) rfl ?_)
    (refine nx (a_call (gN rfl) rfl rfl rfl rfl rfl (of_abs w x.b (hc x hxm).2)) rfl ?_)
    (refine nx (a_build (gN rfl) rfl rfl rfl rfl rfl rfl rfl rfl rfl rfl rfl) rfl ?_)
    (refine nx (a_bslice (gN rfl) rfl rfl rfl rfl rfl rfl rfl rfl rfl rfl rfl rfl rfl) rfl ?_)
    (refine nx (a_app (gN rfl) rfl rfl rfl rfl rfl rfl rfl rfl rfl rfl rfl rfl rfl rfl rfl (by first | assumption | exact sZ rfl | exact Tm.size_all _ | exact Bd.size_all _ | exact ints_size _ | exact bys_size _ | exact Lt.size_all _) (by first | assumption | exact sZ rfl | exact Tm.size_all _ | exact Bd.size_all _ | exact ints_size _ | exact bys_size _ | exact Lt.size_all _) (by first | omega | (simp only [List.length_map, List.length_append, List.length_cons, List.length_nil] <;> omega) | (simp <;> omega))) rfl ?_)
    (refine nx (aA (gN rfl) rfl rfl rfl rfl rfl) rfl ?_)
    refine ⟨by kernel_rfl, ?_⟩
    show AWp _ _ _ _ _ _ _
    refine aR ?_
    (refine nx (aM (gN rfl) rfl rfl rfl rfl rfl) rfl ?_)
    (refine nx (a_add (gN rfl) rfl rfl rfl rfl rfl rfl (by first | omega | (simp only [List.length_map, List.length_append, List.length_cons, List.length_nil] <;> omega) | (simp <;> omega))) rfl ?_)
    (refine nx (aA (gN rfl) rfl rfl rfl rfl rfl) rfl ?_)
    refine ⟨hkl, Wk.trans (wk_sub (s' := [(0, .val (.lst (c.map Lt.cv))), (3, .own (.lst (((c.take (k + 1)).map id).map Lt.cv)) 300031), (300031, .tok 66 5), (4, .val (.i ((k + 1 : Nat) : Int)))]) ⟨rfl, ?_, rfl, rfl, trivial⟩) (wk_ren 300031 200031 rfl rfl rfl rfl)⟩
    rw [List.take_add_one, hx, List.map_append, List.map_append]
    rfl
  · have hkl : k = c.length := by
      have : ¬ k < c.length := by simpa using hlt
      omega
    subst hkl
    rw [List.take_length]
    refine aE ?_
    show AWp _ _ _ _ _ _ _
    refine aS (aR ?_)
    (refine nx (aM (gN rfl) rfl rfl rfl rfl rfl) rfl ?_)
    (refine nx (aA (gN rfl) rfl rfl rfl rfl rfl) rfl ?_)
    show AWp _ _ _ _ _ _ _
    exact aT (And.intro (.inr rfl) rfl)
theorem of11_abs (W : World) (c : List Lt) (hl : c.length ≤ 1000000) (hc : ∀ l ∈ c, l.a.ok ∧ l.b.ok) : AFun Try.prog W 17 [.lst (c.map Lt.cv)] (.val (.lst (c.map Lt.cv))) := by
  have := of11I_abs W c hl hc
  rw [List.map_id] at this
  exact this
noncomputable def cl7 (c : List Lt) : CV := .lst (c.map Lt.cv)
theorem cl7_size (L : List (List Lt)) : ∀ c ∈ L.map cl7, c.size = 1 := by
  intro c hc
  obtain ⟨b, _, rfl⟩ := List.mem_map.1 hc
  rfl
theorem cl7_at {L : List (List Lt)} {i : Nat} {c : List Lt} (h : L[i]? = some c) : (L.map cl7)[i]? = some (.lst (c.map Lt.cv)) := by rw [List.getElem?_map, h]; rfl
def fine17 (L : List (List Lt)) (most : Nat) : Bool := (L.all fun c => fineC c 3 8) && decide (L.length ≤ most)

-- 
theorem fine17_abs (W : World) (L : List (List Lt)) (most : Nat) (hm : most ≤ 1000) (hr : ∀ c ∈ L, okC c) (hL : L.length ≤ 9223372036854775807) : AFun Try.prog W 7 [.lst (L.map cl7), .i (most : Int)] (.val (.b (fine17 L most))) := by
  have hsz := cl7_size L
  refine afun_of (rs := [.b (fine17 L most)]) Try.func7 Try.ntmps7 rfl rfl rfl rfl ?_
  intro w U hW
  refine aS (aR ?_)
  (refine nx (aA (gN rfl) rfl rfl rfl rfl rfl) rfl ?_)
  show AWp _ _ _ _ _ _ _
  refine aS (aS (aR ?_))
  (refine nx (aA (gN rfl) rfl rfl rfl rfl rfl) rfl ?_)
  show AWp _ _ _ _ _ _ _
  refine aB (awp_countI L.length (fun k => ∀ c ∈ L.take k, fineC c 3 8 = true) (fun k => [(0, .val (.lst (L.map cl7))), (1, .val (.i (most : Int))), (5, .val (.i k))]) (wk_sub ⟨rfl, rfl, rfl, trivial⟩) (fun c hc => by simp at hc) ?_)
  intro k hk hI
  refine aS (aS (aR ?_))
  (refine nx (aM (gN rfl) rfl rfl rfl rfl rfl) rfl ?_)
  (refine nx (aM (gN rfl) rfl rfl rfl rfl rfl) rfl ?_)
  (refine nx (a_len (gN rfl) rfl rfl rfl rfl rfl rfl rfl) rfl ?_)
  (refine nx (a_lss (gN rfl) rfl rfl rfl rfl rfl rfl) rfl ?_)
  show AWp _ _ _ _ _ _ _
  refine aC rfl (fun hlt => ?_) (fun hlt => ?_)
  · have hkl : k < L.length := by simpa using hlt
    obtain ⟨c, hc⟩ : ∃ c, L[k]? = some c := ⟨L[k], List.getElem?_eq_getElem hkl⟩
    have hc' := cl7_at hc
    have hcm := List.mem_of_getElem? hc
    refine aK ?_
    show AWp _ _ _ _ _ _ _
    obtain ⟨v, hv⟩ : ∃ v, v = fineC c 3 8 := ⟨_, rfl⟩
    have hf := fun w => fine11_abs w c 3 8 (by omega) (by omega) (by omega) (hr c hcm)
    rw [← hv] at hf
    refine aS (aB (aS (aR ?_)))
    (refine nx (aM (gN rfl) rfl rfl rfl rfl rfl) rfl ?_)
    (refine nx (aM (gN rfl) rfl rfl rfl rfl rfl) rfl ?_)
    (refine nx (a_index (j := k) (gN rfl) rfl rfl rfl rfl rfl rfl rfl rfl rfl (hc') rfl (hsz)) rfl ?_)
    (refine nx (a_load_ad (gN rfl) rfl rfl rfl rfl rfl rfl rfl rfl rfl) rfl ?_)
    (refine nx (a_call (gN rfl) rfl rfl rfl rfl rfl (hf w)) rfl ?_)
    (refine nx (a_not (gN rfl) rfl rfl rfl rfl rfl) rfl ?_)
    show AWp _ _ _ _ _ _ _
    cases v with
    | false =>
      refine aC rfl (fun _ => ?_) (fun hc => by cases hc)
      refine aS (aR ?_)
      (refine nx (aA (gN rfl) rfl rfl rfl rfl rfl) rfl ?_)
      show AWp _ _ _ _ _ _ _
      have e : fine17 L most = false := by
        unfold fine17
        rw [List.all_eq_false.2 ⟨c, hcm, by rw [← hv]; simp⟩, Bool.false_and]
      rw [e]
      exact aT ⟨.inr rfl, rfl⟩
    | true =>
      refine aC rfl (fun hc => by cases hc) (fun _ => aK ?_)
      show AWp _ _ _ _ _ _ _
      refine aR ?_
      (refine nx (aM (gN rfl) rfl rfl rfl rfl rfl) rfl ?_)
      (refine nx (a_add (gN rfl) rfl rfl rfl rfl rfl rfl (by first | omega | (simp only [List.length_map, List.length_append, List.length_cons, List.length_nil] <;> omega) | (simp <;> omega))) rfl ?_)
      (refine nx (aA (gN rfl) rfl rfl rfl rfl rfl) rfl ?_)
      refine ⟨hkl, fun d hd => ?_, wk_sub ⟨rfl, rfl, rfl, trivial⟩⟩
      rw [List.take_add_one, hc, List.mem_append] at hd
      rcases hd with hd | hd
      · exact hI d hd
      · have : d = c := by simpa using hd
        rw [this, ← hv]
  · have hkl : k = L.length := by
      have : ¬ k < L.length := by simpa using hlt
      omega
    subst hkl
    rw [List.take_length] at hI
    refine aE ?_
    show AWp _ _ _ _ _ _ _
    refine aS (aR ?_)
    (refine nx (aM (gN rfl) rfl rfl rfl rfl rfl) rfl ?_)
    (refine nx (a_len (gN rfl) rfl rfl rfl rfl rfl rfl rfl) rfl ?_)
    (refine nx (aM (gN rfl) rfl rfl rfl rfl rfl) rfl ?_)
    (refine nx (a_leq (gN rfl) rfl rfl rfl rfl rfl rfl) rfl ?_)
    (refine nx (aA (gN rfl) rfl rfl rfl rfl rfl) rfl ?_)
    show AWp _ _ _ _ _ _ _
    have e : fine17 L most = decide (((L.map cl7).length : Int) ≤ (most : Int)) := by
      unfold fine17
      rw [List.all_eq_true.2 hI, Bool.true_and, List.length_map]
      simp
    rw [e]
    exact aT ⟨.inr rfl, rfl⟩

noncomputable def rsK (L : List (List Lt)) (k : Nat) : List RuT := (List.range k).filterMap fun i : Nat => (L[i]?).bind (ofR ((i : Int) + 1))
noncomputable def dsK (L : List (List Lt)) (k : Nat) : List RuT := (List.range k).filterMap fun i : Nat => (L[i]?).bind (ofD ((i : Int) + 1))
theorem rsK_step {L : List (List Lt)} {k : Nat} {c : List Lt} (h : L[k]? = some c) : rsK L (k + 1) = rsK L k ++ (ofR ((k : Int) + 1) c).toList := by
  unfold rsK
  rw [List.range_succ, List.filterMap_append]
  congr 1
  simp only [List.filterMap_cons, List.filterMap_nil, h, Option.bind_some]
  cases ofR ((k : Int) + 1) c <;> rfl
theorem dsK_step {L : List (List Lt)} {k : Nat} {c : List Lt} (h : L[k]? = some c) : dsK L (k + 1) = dsK L k ++ (ofD ((k : Int) + 1) c).toList := by
  unfold dsK
  rw [List.range_succ, List.filterMap_append]
  congr 1
  simp only [List.filterMap_cons, List.filterMap_nil, h, Option.bind_some]
  cases ofD ((k : Int) + 1) c <;> rfl
theorem rsK_len (L : List (List Lt)) (k : Nat) : (rsK L k).length ≤ k := by
  have := List.length_filterMap_le (fun i : Nat => (L[i]?).bind (ofR ((i : Int) + 1))) (List.range k)
  rw [List.length_range] at this
  exact this
theorem dsK_len (L : List (List Lt)) (k : Nat) : (dsK L k).length ≤ k := by
  have := List.length_filterMap_le (fun i : Nat => (L[i]?).bind (ofD ((i : Int) + 1))) (List.range k)
  rw [List.length_range] at this
  exact this
theorem of_both (id : Int) (c : List Lt) : (ofR id c = none ∧ ofD id c = none) ∨ ∃ r s, ofR id c = some r ∧ ofD id c = some s ∧ r.id = id ∧ r.a = s.a.strip ∧ r.b = s.b.strip ∧ kb s.a s.b = 1 ∧ ∃ l, c = [l] ∧ ((s.a = l.a ∧ s.b = l.b) ∨ (s.a = l.b ∧ s.b = l.a)) := by
  match c with
  | [] => exact .inl ⟨rfl, rfl⟩
  | x :: y :: c => exact .inl ⟨rfl, rfl⟩
  | [⟨true, a, b⟩] => exact .inl ⟨by simp [ofR], by simp [ofD]⟩
  | [⟨false, a, b⟩] =>
    rw [ofR_one, ofD_one]
    by_cases h1 : kb a b = 1
    · rw [if_pos h1, if_pos h1]
      exact .inr ⟨_, _, rfl, rfl, rfl, rfl, rfl, h1, _, rfl, .inl ⟨rfl, rfl⟩⟩
    · rw [if_neg h1, if_neg h1]
      by_cases h2 : kb b a = 1
      · rw [if_pos h2, if_pos h2]
        exact .inr ⟨_, _, rfl, rfl, rfl, rfl, rfl, h2, _, rfl, .inr ⟨rfl, rfl⟩⟩
      · rw [if_neg h2, if_neg h2]
        exact .inl ⟨rfl, rfl⟩
theorem strip_ok17 : ∀ t : Tm, t.ok → t.strip.ok := by
  intro t
  induction t using Tm.ind with
  | h f l ih =>
    intro h
    rw [Tm.ok] at h
    rw [Tm.strip_eq, Tm.ok]
    have hl : (Tm.mk f l).ps.length ≤ l.length := by
      unfold Tm.ps
      split
      · simp
      · exact Nat.le_refl _
    refine ⟨by rw [List.length_map]; omega, fun s hs => ?_⟩
    obtain ⟨u, hu, rfl⟩ := List.mem_map.1 hs
    exact ih u (Tm.ps_mem hu).1 (h.2 u (Tm.ps_mem hu).1)

-- 
set_option maxHeartbeats 4000000 in
theorem rules17_abs (W : World) (L : List (List Lt)) (hL : L.length ≤ 1000) (hc : ∀ c ∈ L, c.length ≤ 1000 ∧ ∀ l ∈ c, l.ok17) : AFun Try.prog W 10 [.lst (L.map cl7)] (.tup [.lst ((rsK L L.length).map RuT.cv), .lst ((dsK L L.length).map RuT.cv), .b true]) := by
  have hsz := cl7_size L
  refine afun_of (rs := [.lst ((rsK L L.length).map RuT.cv), .lst ((dsK L L.length).map RuT.cv), .b true]) Try.func10 Try.ntmps10 rfl rfl rfl rfl ?_
  intro w U hW
  refine aS (aR ?_)
  (refine nx (aA (gN rfl) rfl rfl rfl rfl rfl) rfl ?_)
  (refine nx (aA (gN rfl) rfl rfl rfl rfl rfl) rfl ?_)
  (refine nx (aA (gN rfl) rfl rfl rfl rfl rfl) rfl ?_)
  show AWp _ _ _ _ _ _ _
  refine aS (aR ?_)
  (refine nx (aA (gN rfl) rfl rfl rfl rfl rfl) rfl ?_)
  show AWp _ _ _ _ _ _ _
  refine aS (aR ?_)
  (refine nx (aA (gN rfl) rfl rfl rfl rfl rfl) rfl ?_)
  show AWp _ _ _ _ _ _ _
  refine aS (aS (aR ?_))
  (refine nx (aA (gN rfl) rfl rfl rfl rfl rfl) rfl ?_)
  show AWp _ _ _ _ _ _ _
  refine aB (awp_count L.length (fun k => [(0, .val (.lst (L.map cl7))), (7, .val (.i k)), (5, .own (.lst ((rsK L k).map RuT.cv)) 200074), (200074, .tok 64 5), (6, .own (.lst ((dsK L k).map RuT.cv)) 200078), (200078, .tok 77 5)])
    (((wk_nil 5 200074 64 5 rfl rfl rfl rfl rfl rfl rfl).trans (wk_nil 6 200078 77 5 rfl rfl rfl rfl rfl rfl rfl)).trans (wk_sub ⟨rfl, rfl, rfl, rfl, rfl, rfl, trivial⟩)) ?_)
  intro k hk
  have hrz := RuT.size_all (rsK L k)
  have hdz := RuT.size_all (dsK L k)
  have hrl := rsK_len L k
  have hdl := dsK_len L k
  have hrl2 : ((rsK L k).map RuT.cv).length ≤ 1000 := by rw [List.length_map]; omega
  have hdl2 : ((dsK L k).map RuT.cv).length ≤ 1000 := by rw [List.length_map]; omega
  refine aS (aS (aR ?_))
  (refine nx (aM (gN rfl) rfl rfl rfl rfl rfl) rfl ?_)
  (refine nx (aM (gN rfl) rfl rfl rfl rfl rfl) rfl ?_)
  (refine nx (a_len (gN rfl) rfl rfl rfl rfl rfl rfl rfl) rfl ?_)
  (refine nx (a_lss (gN rfl) rfl rfl rfl rfl rfl rfl) rfl ?_)
  show AWp _ _ _ _ _ _ _
  refine aC rfl (fun hlt => ?_) (fun hlt => ?_)
  · have hkl : k < L.length := by simpa using hlt
    obtain ⟨c, hcc⟩ : ∃ c, L[k]? = some c := ⟨L[k], List.getElem?_eq_getElem hkl⟩
    have hc' := cl7_at hcc
    have hcm := List.mem_of_getElem? hcc
    obtain ⟨hcl, hcl17⟩ := hc c hcm
    refine aK ?_
    show AWp _ _ _ _ _ _ _
    have h11 := fun w => of11_abs w c (by omega) fun l hl => ⟨(hcl17 l hl).1.2.1, (hcl17 l hl).2.2.1⟩
    have hO := fun w => wOf_abs w ((k : Int) + 1) c hcl17
    have hD := fun w => dOf_abs w ((k : Int) + 1) c hcl17
    have hsr := rsK_step hcc
    have hsd := dsK_step hcc
    rcases of_both ((k : Int) + 1) c with ⟨e1, e2⟩ | ⟨r, s, e1, e2, e3, e4, e5, _, l, e6, e7⟩
    · rw [e1] at hO hsr
      rw [e2] at hD hsd
      refine aS (aB (aS (aR ?_)))
      (refine nx (aM (gN rfl) rfl rfl rfl rfl rfl) rfl ?_)
      (refine nx (a_add (gN rfl) rfl rfl rfl rfl rfl rfl (by first | omega | (simp only [List.length_map, List.length_append, List.length_cons, List.length_nil] <;> omega) | (simp <;> omega))) rfl ?_)
      (refine nx (aM (gN rfl) rfl rfl rfl rfl rfl) rfl ?_)
      (refine nx (aM (gN rfl) rfl rfl rfl rfl rfl) rfl ?_)
      (refine nx (a_index (j := k) (gN rfl) rfl rfl rfl rfl rfl rfl rfl rfl rfl (hc') rfl (hsz)) rfl ?_)
      (refine nx (a_load_ad (gN rfl) rfl rfl rfl rfl rfl rfl rfl rfl rfl) rfl ?_)
      (refine nx (a_call (gN rfl) rfl rfl rfl rfl rfl (h11 w)) rfl ?_)
      (refine nx (a_call (gN rfl) rfl rfl rfl rfl rfl (hO w)) rfl ?_)
      (refine nx (aM (gN rfl) rfl rfl rfl rfl rfl) rfl ?_)
      (refine nx (aX (gN rfl) rfl rfl rfl rfl rfl rfl) rfl ?_)
      (refine nx (aX (gN rfl) rfl rfl rfl rfl rfl rfl) rfl ?_)
      (refine nx (a_alloc (gN rfl) rfl rfl rfl rfl rfl rfl rfl rfl rfl rfl) rfl ?_)
      (refine nx (aSt (gN rfl) rfl rfl rfl rfl rfl rfl rfl rfl rfl rfl) rfl ?_)
      (refine nx (aA (gN rfl) rfl rfl rfl rfl rfl) rfl ?_)
      show AWp _ _ _ _ _ _ _
      refine aS (aR ?_)
      (refine nx (aM (gN rfl) rfl rfl rfl rfl rfl) rfl ?_)
      (refine nx (a_add (gN rfl) rfl rfl rfl rfl rfl rfl (by first | omega | (simp only [List.length_map, List.length_append, List.length_cons, List.length_nil] <;> omega) | (simp <;> omega))) rfl ?_)
      (refine nx (aM (gN rfl) rfl rfl rfl rfl rfl) rfl ?_)
      (refine nx (aM (gN rfl) rfl rfl rfl rfl rfl) rfl ?_)
      (refine nx (a_index (j := k) (gN rfl) rfl rfl rfl rfl rfl rfl rfl rfl rfl (hc') rfl (hsz)) rfl ?_)
      (refine nx (a_load_ad (gN rfl) rfl rfl rfl rfl rfl rfl rfl rfl rfl) rfl ?_)
      (refine nx (a_call (gN rfl) rfl rfl rfl rfl rfl (hD w)) rfl ?_)
      (refine nx (aM (gN rfl) rfl rfl rfl rfl rfl) rfl ?_)
      (refine nx (aX (gN rfl) rfl rfl rfl rfl rfl rfl) rfl ?_)
      (refine nx (aX (gN rfl) rfl rfl rfl rfl rfl rfl) rfl ?_)
      (refine nx (a_alloc (gN rfl) rfl rfl rfl rfl rfl rfl rfl rfl rfl rfl) rfl ?_)
      (refine nx (aSt (gN rfl) rfl rfl rfl rfl rfl rfl rfl rfl rfl rfl) rfl ?_)
      (refine nx (aA (gN rfl) rfl rfl rfl rfl rfl) rfl ?_)
      show AWp _ _ _ _ _ _ _
      refine aS (aS (aD (by kernel_rfl) (by kernel_rfl) ?_))
      (refine nx (aM (gN rfl) rfl rfl rfl rfl rfl) rfl ?_)
      (refine nx (aM (gN rfl) rfl rfl rfl rfl rfl) rfl ?_)
      (refine nx (a_bne (gN rfl) rfl rfl rfl rfl rfl rfl rfl) rfl ?_)
      (refine nx (aM (gN rfl) rfl rfl rfl rfl rfl) rfl ?_)
      (refine nx (aM (gd_on rfl rfl rfl rfl (by first | rfl | assumption | (simp; done))) rfl rfl rfl rfl rfl) rfl ?_)
      (refine nx (aM (gd_on rfl rfl rfl rfl (by first | rfl | assumption | (simp; done))) rfl rfl rfl rfl rfl) rfl ?_)
      (refine ⟨_, _, _, a_offt (go_off rfl rfl rfl rfl (by first | rfl | assumption | (simp; done) | (simp [*]; done))) rfl rfl rfl, rfl, ?_⟩)
      (refine ⟨_, _, _, a_offt (go_off rfl rfl rfl rfl (by first | rfl | assumption | (simp; done) | (simp [*]; done))) rfl rfl rfl, rfl, ?_⟩)
      (refine ⟨_, _, _, a_offt (go_off rfl rfl rfl rfl (by first | rfl | assumption | (simp; done) | (simp [*]; done))) rfl rfl rfl, rfl, ?_⟩)
      (refine ⟨_, _, _, a_offt (go_off rfl rfl rfl rfl (by first | rfl | assumption | (simp; done) | (simp [*]; done))) rfl rfl rfl, rfl, ?_⟩)
      (refine ⟨_, _, _, a_offt (go_off rfl rfl rfl rfl (by first | rfl | assumption | (simp; done) | (simp [*]; done))) rfl rfl rfl, rfl, ?_⟩)
      (refine ⟨_, _, _, a_offt (go_off rfl rfl rfl rfl (by first | rfl | assumption | (simp; done) | (simp [*]; done))) rfl rfl rfl, rfl, ?_⟩)
      (refine ⟨_, _, _, a_offt (go_off_t rfl rfl rfl rfl) rfl rfl rfl, rfl, ?_⟩)
      (refine ⟨_, _, _, a_offt (go_off_t rfl rfl rfl rfl) rfl rfl rfl, rfl, ?_⟩)
      (refine ⟨_, _, _, a_offt (go_off_t rfl rfl rfl rfl) rfl rfl rfl, rfl, ?_⟩)
      (refine ⟨_, _, _, a_offt (go_off_t rfl rfl rfl rfl) rfl rfl rfl, rfl, ?_⟩)
      (refine ⟨_, _, _, a_offt (go_off_t rfl rfl rfl rfl) rfl rfl rfl, rfl, ?_⟩)
      (refine ⟨_, _, _, a_offt (go_off_t rfl rfl rfl rfl) rfl rfl rfl, rfl, ?_⟩)
      (refine ⟨_, _, _, a_offt (go_off_t rfl rfl rfl rfl) rfl rfl rfl, rfl, ?_⟩)
      (refine ⟨_, _, _, a_offt (go_off rfl rfl rfl rfl (by first | rfl | assumption | (simp; done) | (simp [*]; done))) rfl rfl rfl, rfl, ?_⟩)
      (refine ⟨_, _, _, a_offt (go_off rfl rfl rfl rfl (by first | rfl | assumption | (simp; done) | (simp [*]; done))) rfl rfl rfl, rfl, ?_⟩)
      (refine ⟨_, _, _, a_offt (go_off_t rfl rfl rfl rfl) rfl rfl rfl, rfl, ?_⟩)
      (refine ⟨_, _, _, a_offt (go_off_t rfl rfl rfl rfl) rfl rfl rfl, rfl, ?_⟩)
      (refine ⟨_, _, _, a_offt (go_off_t rfl rfl rfl rfl) rfl rfl rfl, rfl, ?_⟩)
      (refine ⟨_, _, _, a_offt (go_off_t rfl rfl rfl rfl) rfl rfl rfl, rfl, ?_⟩)
      (refine ⟨_, _, _, a_offt (go_off_t rfl rfl rfl rfl) rfl rfl rfl, rfl, ?_⟩)
      (refine ⟨_, _, _, a_offt (go_off_t rfl rfl rfl rfl) rfl rfl rfl, rfl, ?_⟩)
      (refine ⟨_, _, _, a_offt (go_off_t rfl rfl rfl rfl) rfl rfl rfl, rfl, ?_⟩)
      (refine ⟨_, _, _, a_offt (go_off rfl rfl rfl rfl (by first | rfl | assumption | (simp; done) | (simp [*]; done))) rfl rfl rfl, rfl, ?_⟩)
      (refine ⟨_, _, _, aPf (gd_on rfl rfl rfl rfl (by first | rfl | assumption | (simp; done))) rfl rfl rfl rfl rfl ?hb rfl, rfl, ?_⟩; case hb => (first | rfl | assumption | (simp; done)))
      (refine ⟨_, _, _, aPf (gN rfl) rfl rfl rfl rfl rfl ?hb rfl, rfl, ?_⟩; case hb => (first | rfl | assumption | (simp; done)))
      refine ⟨by kernel_rfl, ?_⟩
      show AWp _ _ _ _ _ _ _
      refine aC rfl (fun hc => by cases hc) (fun _ => aK ?_)
      show AWp _ _ _ _ _ _ _
      refine aS (aR ?_)
      (refine nx (aM (gN rfl) rfl rfl rfl rfl rfl) rfl ?_)
      show AWp _ _ _ _ _ _ _
      refine aC rfl (fun hc => by cases hc) (fun _ => aK ?_)
      show AWp _ _ _ _ _ _ _
      refine aR ?_
      (refine nx (aM (gN rfl) rfl rfl rfl rfl rfl) rfl ?_)
      (refine nx (a_add (gN rfl) rfl rfl rfl rfl rfl rfl (by first | omega | (simp only [List.length_map, List.length_append, List.length_cons, List.length_nil] <;> omega) | (simp <;> omega))) rfl ?_)
      (refine nx (aA (gN rfl) rfl rfl rfl rfl rfl) rfl ?_)
      refine ⟨hkl, wk_sub ⟨rfl, rfl, ?_, rfl, ?_, rfl, trivial⟩⟩
      · rw [hsr]; simp only [Option.toList_none, List.append_nil]; rfl
      · rw [hsd]; simp only [Option.toList_none, List.append_nil]; rfl
    · rw [e1] at hO hsr
      rw [e2] at hD hsd
      have hl17 := hcl17 l (by rw [e6]; simp)
      have hsao : s.a.ok ∧ s.b.ok := by
        rcases e7 with ⟨q1, q2⟩ | ⟨q1, q2⟩
        · rw [q1, q2]; exact ⟨hl17.1.2.1, hl17.2.2.1⟩
        · rw [q1, q2]; exact ⟨hl17.2.2.1, hl17.1.2.1⟩
      have hra : r.a.ok := by rw [e4]; exact strip_ok17 _ hsao.1
      have hrb : r.b.ok := by rw [e5]; exact strip_ok17 _ hsao.2
      have hT1 := fun w => to_abs w r.a hra
      have hT2 := fun w => to_abs w r.b hrb
      have hS1 : ∀ w, AFun Try.prog w 14 [r.a.strip.cw, s.a.cw] (.val (.b true)) := fun w => by
        have := refSame_abs w r.a.strip s.a (strip_ok17 _ hra) hsao.1
        rw [(sameT_iff _ _).2 (by rw [e4, Tm.strip_strip, Tm.strip_strip])] at this
        exact this
      have hS2 : ∀ w, AFun Try.prog w 14 [r.b.strip.cw, s.b.cw] (.val (.b true)) := fun w => by
        have := refSame_abs w r.b.strip s.b (strip_ok17 _ hrb) hsao.2
        rw [(sameT_iff _ _).2 (by rw [e5, Tm.strip_strip, Tm.strip_strip])] at this
        exact this
      have hid : decide (r.id ≠ (k : Int) + 1) = false := by simp [e3]
      have hid2 : decide (r.id = (k : Int) + 1) = true := by simp [e3]
      refine aS (aB (aS (aR ?_)))
      (refine nx (aM (gN rfl) rfl rfl rfl rfl rfl) rfl ?_)
      (refine nx (a_add (gN rfl) rfl rfl rfl rfl rfl rfl (by first | omega | (simp only [List.length_map, List.length_append, List.length_cons, List.length_nil] <;> omega) | (simp <;> omega))) rfl ?_)
      (refine nx (aM (gN rfl) rfl rfl rfl rfl rfl) rfl ?_)
      (refine nx (aM (gN rfl) rfl rfl rfl rfl rfl) rfl ?_)
      (refine nx (a_index (j := k) (gN rfl) rfl rfl rfl rfl rfl rfl rfl rfl rfl (hc') rfl (hsz)) rfl ?_)
      (refine nx (a_load_ad (gN rfl) rfl rfl rfl rfl rfl rfl rfl rfl rfl) rfl ?_)
      (refine nx (a_call (gN rfl) rfl rfl rfl rfl rfl (h11 w)) rfl ?_)
      (refine nx (a_call (gN rfl) rfl rfl rfl rfl rfl (hO w)) rfl ?_)
      (refine nx (aM (gN rfl) rfl rfl rfl rfl rfl) rfl ?_)
      (refine nx (aX (gN rfl) rfl rfl rfl rfl rfl rfl) rfl ?_)
      (refine nx (aX (gN rfl) rfl rfl rfl rfl rfl rfl) rfl ?_)
      (refine nx (a_alloc (gN rfl) rfl rfl rfl rfl rfl rfl rfl rfl rfl rfl) rfl ?_)
      (refine nx (aSt (gN rfl) rfl rfl rfl rfl rfl rfl rfl rfl rfl rfl) rfl ?_)
      (refine nx (aA (gN rfl) rfl rfl rfl rfl rfl) rfl ?_)
      show AWp _ _ _ _ _ _ _
      refine aS (aR ?_)
      (refine nx (aM (gN rfl) rfl rfl rfl rfl rfl) rfl ?_)
      (refine nx (a_add (gN rfl) rfl rfl rfl rfl rfl rfl (by first | omega | (simp only [List.length_map, List.length_append, List.length_cons, List.length_nil] <;> omega) | (simp <;> omega))) rfl ?_)
      (refine nx (aM (gN rfl) rfl rfl rfl rfl rfl) rfl ?_)
      (refine nx (aM (gN rfl) rfl rfl rfl rfl rfl) rfl ?_)
      (refine nx (a_index (j := k) (gN rfl) rfl rfl rfl rfl rfl rfl rfl rfl rfl (hc') rfl (hsz)) rfl ?_)
      (refine nx (a_load_ad (gN rfl) rfl rfl rfl rfl rfl rfl rfl rfl rfl) rfl ?_)
      (refine nx (a_call (gN rfl) rfl rfl rfl rfl rfl (hD w)) rfl ?_)
      (refine nx (aM (gN rfl) rfl rfl rfl rfl rfl) rfl ?_)
      (refine nx (aX (gN rfl) rfl rfl rfl rfl rfl rfl) rfl ?_)
      (refine nx (aX (gN rfl) rfl rfl rfl rfl rfl rfl) rfl ?_)
      (refine nx (a_alloc (gN rfl) rfl rfl rfl rfl rfl rfl rfl rfl rfl rfl) rfl ?_)
      (refine nx (aSt (gN rfl) rfl rfl rfl rfl rfl rfl rfl rfl rfl rfl) rfl ?_)
      (refine nx (aA (gN rfl) rfl rfl rfl rfl rfl) rfl ?_)
      show AWp _ _ _ _ _ _ _
      refine aS (aS (aD (by kernel_rfl) (by kernel_rfl) ?_))
      (refine nx (aM (gN rfl) rfl rfl rfl rfl rfl) rfl ?_)
      (refine nx (aM (gN rfl) rfl rfl rfl rfl rfl) rfl ?_)
      (refine nx (a_bne (gN rfl) rfl rfl rfl rfl rfl rfl rfl) rfl ?_)
      (refine nx (aM (gN rfl) rfl rfl rfl rfl rfl) rfl ?_)
      (refine nx (aM (gd_on rfl rfl rfl rfl (by first | rfl | assumption | (simp; done))) rfl rfl rfl rfl rfl) rfl ?_)
      (refine nx (aM (gd_on rfl rfl rfl rfl (by first | rfl | assumption | (simp; done))) rfl rfl rfl rfl rfl) rfl ?_)
      (refine nx (aF (gd_on rfl rfl rfl rfl (by first | rfl | assumption | (simp; done))) rfl rfl rfl rfl rfl rfl rfl rfl rfl) rfl ?_)
      (refine nx (aLb (gd_on rfl rfl rfl rfl (by first | rfl | assumption | (simp; done))) rfl rfl rfl rfl rfl rfl rfl rfl rfl rfl rfl rfl) rfl ?_)
      (refine nx (aM (gd_on rfl rfl rfl rfl (by first | rfl | assumption | (simp; done))) rfl rfl rfl rfl rfl) rfl ?_)
      (refine nx (a_add (gd_on rfl rfl rfl rfl (by first | rfl | assumption | (simp; done))) rfl rfl rfl rfl rfl rfl (by first | omega | (simp only [List.length_map, List.length_append, List.length_cons, List.length_nil] <;> omega) | (simp <;> omega))) rfl ?_)
      (refine nx (a_neq (gd_on rfl rfl rfl rfl (by first | rfl | assumption | (simp; done))) rfl rfl rfl rfl rfl rfl) rfl ?_)
      (refine nx (aM (gd_on rfl rfl rfl rfl (by first | rfl | assumption | (simp; done))) rfl rfl rfl rfl rfl) rfl ?_)
      (refine nx (aF (gd_on rfl rfl rfl rfl (by first | rfl | assumption | (simp; done))) rfl rfl rfl rfl rfl rfl rfl rfl rfl) rfl ?_)
      (refine nx (aLb (gd_on rfl rfl rfl rfl (by first | rfl | assumption | (simp; done))) rfl rfl rfl rfl rfl rfl rfl rfl rfl rfl rfl rfl) rfl ?_)
      (refine nx (a_call (gd_on rfl rfl rfl rfl (by first | rfl | assumption | (simp; done))) rfl rfl rfl rfl rfl (hT1 w)) rfl ?_)
      (refine nx (aF (gd_on rfl rfl rfl rfl (by first | rfl | assumption | (simp; done))) rfl rfl rfl rfl rfl rfl rfl rfl rfl) rfl ?_)
      (refine nx (aLb (gd_on rfl rfl rfl rfl (by first | rfl | assumption | (simp; done))) rfl rfl rfl rfl rfl rfl rfl rfl rfl rfl rfl rfl) rfl ?_)
      (refine nx (a_call (gd_on rfl rfl rfl rfl (by first | rfl | assumption | (simp; done))) rfl rfl rfl rfl rfl (hS1 w)) rfl ?_)
      (refine nx (a_not (gd_on rfl rfl rfl rfl (by first | rfl | assumption | (simp; done))) rfl rfl rfl rfl rfl) rfl ?_)
      (refine ⟨_, _, _, aPf (gd_on rfl rfl rfl rfl (by first | rfl | assumption | (simp; done))) rfl rfl rfl rfl rfl ?hb rfl, rfl, ?_⟩; case hb => (first | rfl | assumption | (simp; done)))
      (refine nx (aM (gd_on rfl rfl rfl rfl (by first | rfl | assumption | (simp; done))) rfl rfl rfl rfl rfl) rfl ?_)
      (refine nx (aF (gd_on rfl rfl rfl rfl (by first | rfl | assumption | (simp; done))) rfl rfl rfl rfl rfl rfl rfl rfl rfl) rfl ?_)
      (refine nx (aLb (gd_on rfl rfl rfl rfl (by first | rfl | assumption | (simp; done))) rfl rfl rfl rfl rfl rfl rfl rfl rfl rfl rfl rfl) rfl ?_)
      (refine nx (a_call (gd_on rfl rfl rfl rfl (by first | rfl | assumption | (simp; done))) rfl rfl rfl rfl rfl (hT2 w)) rfl ?_)
      (refine nx (aF (gd_on rfl rfl rfl rfl (by first | rfl | assumption | (simp; done))) rfl rfl rfl rfl rfl rfl rfl rfl rfl) rfl ?_)
      (refine nx (aLb (gd_on rfl rfl rfl rfl (by first | rfl | assumption | (simp; done))) rfl rfl rfl rfl rfl rfl rfl rfl rfl rfl rfl rfl) rfl ?_)
      (refine nx (a_call (gd_on rfl rfl rfl rfl (by first | rfl | assumption | (simp; done))) rfl rfl rfl rfl rfl (hS2 w)) rfl ?_)
      (refine nx (a_not (gd_on rfl rfl rfl rfl (by first | rfl | assumption | (simp; done))) rfl rfl rfl rfl rfl) rfl ?_)
      (refine ⟨_, _, _, aPf (gd_on rfl rfl rfl rfl (by first | rfl | assumption | (simp; done))) rfl rfl rfl rfl rfl ?hb rfl, rfl, ?_⟩; case hb => (first | rfl | assumption | (simp; done)))
      (refine ⟨_, _, _, aPt (gd_on rfl rfl rfl rfl (by first | rfl | assumption | (simp; done))) rfl rfl rfl rfl rfl ?hb rfl, rfl, ?_⟩; case hb => (first | rfl | assumption | (simp; done)))
      (refine ⟨_, _, _, aPf (gN rfl) rfl rfl rfl rfl rfl ?hb rfl, rfl, ?_⟩; case hb => (first | rfl | assumption | (simp; done)))
      refine ⟨by kernel_rfl, ?_⟩
      show AWp _ _ _ _ _ _ _
      refine aC rfl (fun hc => by cases hc) (fun _ => aK ?_)
      show AWp _ _ _ _ _ _ _
      refine aS (aR ?_)
      (refine nx (aM (gN rfl) rfl rfl rfl rfl rfl) rfl ?_)
      show AWp _ _ _ _ _ _ _
      refine aC rfl (fun _ => ?_) (fun hc => by cases hc)
      refine aS (aR ?_)
      (refine nx (aM (gN rfl) rfl rfl rfl rfl rfl) rfl ?_)
      (refine nx (aL (gN rfl) rfl rfl rfl rfl rfl rfl rfl rfl rfl rfl rfl rfl) rfl ?_)
      (refine nx (a_bslice (gN rfl) rfl rfl rfl rfl rfl rfl rfl rfl rfl rfl rfl rfl rfl) rfl ?_)
      (refine nx (a_app (gN rfl) rfl rfl rfl rfl rfl rfl rfl rfl rfl rfl rfl rfl rfl rfl rfl (by first | assumption | exact sZ rfl | exact Tm.size_all _ | exact Bd.size_all _ | exact ints_size _ | exact bys_size _ | exact Lt.size_all _) (by first | assumption | exact sZ rfl | exact Tm.size_all _ | exact Bd.size_all _ | exact ints_size _ | exact bys_size _ | exact Lt.size_all _) (by first | omega | (simp only [List.length_map, List.length_append, List.length_cons, List.length_nil] <;> omega) | (simp <;> omega))) rfl ?_)
      (refine nx (aA (gN rfl) rfl rfl rfl rfl rfl) rfl ?_)
      show AWp _ _ _ _ _ _ _
      refine aR ?_
      (refine nx (aM (gN rfl) rfl rfl rfl rfl rfl) rfl ?_)
      (refine nx (aL (gN rfl) rfl rfl rfl rfl rfl rfl rfl rfl rfl rfl rfl rfl) rfl ?_)
      (refine nx (a_bslice (gN rfl) rfl rfl rfl rfl rfl rfl rfl rfl rfl rfl rfl rfl rfl) rfl ?_)
      (refine nx (a_app (gN rfl) rfl rfl rfl rfl rfl rfl rfl rfl rfl rfl rfl rfl rfl rfl rfl (by first | assumption | exact sZ rfl | exact Tm.size_all _ | exact Bd.size_all _ | exact ints_size _ | exact bys_size _ | exact Lt.size_all _) (by first | assumption | exact sZ rfl | exact Tm.size_all _ | exact Bd.size_all _ | exact ints_size _ | exact bys_size _ | exact Lt.size_all _) (by first | omega | (simp only [List.length_map, List.length_append, List.length_cons, List.length_nil] <;> omega) | (simp <;> omega))) rfl ?_)
      (refine nx (aA (gN rfl) rfl rfl rfl rfl rfl) rfl ?_)
      show AWp _ _ _ _ _ _ _
      refine aR ?_
      (refine nx (aM (gN rfl) rfl rfl rfl rfl rfl) rfl ?_)
      (refine nx (a_add (gN rfl) rfl rfl rfl rfl rfl rfl (by first | omega | (simp only [List.length_map, List.length_append, List.length_cons, List.length_nil] <;> omega) | (simp <;> omega))) rfl ?_)
      (refine nx (aA (gN rfl) rfl rfl rfl rfl rfl) rfl ?_)
      refine ⟨hkl, ((wk_sub (s' := [(0, .val (.lst (L.map cl7))), (7, .val (.i ((k + 1 : Nat) : Int))), (5, .own (.lst ((rsK L (k + 1)).map RuT.cv)) 300074), (300074, .tok 64 5), (6, .own (.lst ((dsK L (k + 1)).map RuT.cv)) 300078), (300078, .tok 77 5)]) ⟨rfl, rfl, ?_, rfl, ?_, rfl, trivial⟩).trans (wk_ren 300074 200074 rfl rfl rfl rfl)).trans (wk_ren 300078 200078 rfl rfl rfl rfl)⟩
      · rw [hsr, List.map_append]; rfl
      · rw [hsd, List.map_append]; rfl
  · have hkl : k = L.length := by
      have : ¬ k < L.length := by simpa using hlt
      omega
    subst hkl
    refine aE ?_
    show AWp _ _ _ _ _ _ _
    refine aS (aR ?_)
    (refine nx (aM (gN rfl) rfl rfl rfl rfl rfl) rfl ?_)
    (refine nx (aM (gN rfl) rfl rfl rfl rfl rfl) rfl ?_)
    (refine nx (aA (gN rfl) rfl rfl rfl rfl rfl) rfl ?_)
    (refine nx (aA (gN rfl) rfl rfl rfl rfl rfl) rfl ?_)
    (refine nx (aA (gN rfl) rfl rfl rfl rfl rfl) rfl ?_)
    show AWp _ _ _ _ _ _ _
    exact aT (And.intro (.inr rfl) rfl)
end Go.Proofs.Ytekboofbedakcaa
namespace Go.Proofs.Ytekboofbedakcaa
set_option linter.unusedVariables false
set_option linter.unusedSimpArgs false
theorem perm_of_count : ∀ {b a : List Int}, (∀ v, b.count v ≤ a.count v) → ∃ r, a.Perm (b ++ r)
  | [], a, _ => ⟨a, by simp⟩
  | x :: b, a, h => by
    have hx : x ∈ a := by
      have := h x
      rw [List.count_cons_self] at this
      exact List.count_pos_iff.1 (by omega)
    have hp := List.perm_cons_erase hx
    obtain ⟨r, hr⟩ := perm_of_count (b := b) (a := a.erase x) (fun v => by
      have h1 := h v
      have h2 := hp.count_eq v
      rw [List.count_cons] at h1 h2
      omega)
    exact ⟨r, hp.trans (by rw [List.cons_append]; exact hr.cons x)⟩
theorem flatMap_count (l : List Int) (g : Int → List Int) (v : Int) : (l.flatMap g).count v = (l.map fun x => (g x).count v).sum := by
  induction l with
  | nil => rfl
  | cons x l ih => rw [List.flatMap_cons, List.count_append, ih, List.map_cons, List.sum_cons]
theorem sum_perm_nat {l m : List Nat} (h : l.Perm m) : l.sum = m.sum := by
  induction h with
  | nil => rfl
  | cons x _ ih => rw [List.sum_cons, List.sum_cons, ih]
  | swap x y l => simp only [List.sum_cons]; omega
  | trans _ _ ih1 ih2 => exact ih1.trans ih2
theorem sum_perm_int {l m : List Int} (h : l.Perm m) : l.sum = m.sum := by
  induction h with
  | nil => rfl
  | cons x _ ih => rw [List.sum_cons, List.sum_cons, ih]
  | swap x y l => simp only [List.sum_cons]; omega
  | trans _ _ ih1 ih2 => exact ih1.trans ih2
theorem sum_nonneg {l : List Int} (h : ∀ x ∈ l, 0 ≤ x) : 0 ≤ l.sum := by
  induction l with
  | nil => simp
  | cons x l ih =>
    rw [List.sum_cons]
    have := h x (by simp)
    have := ih fun y hy => h y (List.mem_cons_of_mem _ hy)
    omega
theorem cov_rep (img : Int → Tm) {a b : Tm} (h : cov a b) : cov (repT img a) (repT img b) ∧ szD a b ≤ szD (repT img a) (repT img b) := by
  obtain ⟨r, hr⟩ := perm_of_count h
  constructor
  · intro v
    rw [repT_vs, repT_vs, flatMap_count, flatMap_count, sum_perm_nat (hr.map _), List.map_append, List.sum_append_nat]
    omega
  · unfold szD
    rw [repT_size, repT_size, sum_perm_int (hr.map _), List.map_append, List.sum_append_int]
    have : 0 ≤ (r.map fun v => ((img v).size : Int) - 1).sum := by
      refine sum_nonneg fun x hx => ?_
      obtain ⟨v, _, rfl⟩ := List.mem_map.1 hx
      have := (img v).size_pos
      omega
    omega
theorem kbs_rep (img : Int → Tm) : ∀ {l m : List Tm}, (∀ s ∈ l, ∀ t, kb s t = 1 → kb (repT img s) (repT img t) = 1) → kbs l m = 1 → kbs (l.map (repT img)) (m.map (repT img)) = 1
  | [], _, _, h => by rw [kbs_nil] at h; omega
  | _ :: _, [], _, h => by cases h
  | x :: l, y :: m, ih, h => by
    rw [kbs_cons, firstK_one] at h
    rw [List.map_cons, List.map_cons, kbs_cons, firstK_one]
    rcases h with h | ⟨h, h'⟩
    · exact .inl (ih x (by simp) y h)
    · right
      refine ⟨?_, kbs_rep img (fun s hs => ih s (List.mem_cons_of_mem _ hs)) h'⟩
      rw [← rep_strip img x, (kb_zero x y).1 h, rep_strip]
      exact kb_self _
theorem kb_rep1 (img : Int → Tm) (a : Tm) : ∀ b, kb a b = 1 → kb (repT img a) (repT img b) = 1 := by
  induction a using Tm.ind with
  | h f l ih =>
    intro b h
    rw [kb_one] at h
    obtain ⟨h1, h2⟩ := h
    obtain ⟨c1, c2⟩ := cov_rep img h1
    unfold szD at c2
    rw [kb_one]
    refine ⟨c1, ?_⟩
    rcases h2 with h2 | ⟨h2, h3⟩
    · left; omega
    · rcases Nat.lt_or_ge (repT img b).size (repT img ⟨f, l⟩).size with h4 | h4
      · exact .inl h4
      · right
        refine ⟨by omega, ?_⟩
        rw [wi_one] at h3 ⊢
        obtain ⟨h5, h6, h7⟩ := h3
        rw [repT_sym h5, repT_sym h6]
        refine ⟨h5, h6, ?_⟩
        simp only [List.length_map]
        rcases h7 with h7 | ⟨h7, h8 | ⟨h8, h9⟩⟩
        · exact .inl h7
        · exact .inr ⟨h7, .inl h8⟩
        · exact .inr ⟨h7, .inr ⟨h8, kbs_rep img ih h9⟩⟩
end Go.Proofs.Ytekboofbedakcaa
namespace Go.Proofs.Ytekboofbedakcaa
open Go.RowKit
set_option linter.unusedVariables false
set_option linter.unusedSimpArgs false
set_option maxRecDepth 100000
-- 
theorem clInt400002_abs (pl : List Int) (hl : pl.length ≤ 1000000) : AFunO Try.prog 57 [(400002, .mrow 3 1 (pl.map CV.i))] [.sl 400002 0 pl.length 1] (.val (.lst (pl.map CV.i))) [(400002, .mrow 3 1 (pl.map CV.i))] := by
  have hlm : (pl.map CV.i).length = pl.length := List.length_map ..
  refine afunO_of Try.func57 Try.ntmps57 rfl rfl rfl rfl rfl rfl ?_
  intro w U hU
  refine aS (aR ?_)
  (refine nx (aA (gN rfl) rfl rfl rfl rfl rfl) rfl ?_)
  show AWp _ _ _ _ _ _ _
  refine AWp.handle 1 400002 rfl rfl rfl rfl fun ao cap hcap hao => ?_
  have hao' : ao = none → pl.length = 0 ∧ cap = 0 := fun e => by have := hao e; rw [hlm] at this; exact this
  refine aS (aS (aR ?_))
  (refine nx (aM (gN rfl) rfl rfl rfl rfl rfl) rfl ?_)
  (refine nx (a_nilS 1 (gN rfl) rfl rfl rfl rfl rfl rfl rfl rfl (hao')) rfl ?_)
  show AWp _ _ _ _ _ _ _
  cases ao with
  | none =>
    have hpl : pl = [] := List.eq_nil_of_length_eq_zero (hao' rfl).1
    subst hpl
    refine aC rfl (fun hc => ?_) (fun hc => by cases hc)
    refine aS (aR ?_)
    (refine nx (aA (gN rfl) rfl rfl rfl rfl rfl) rfl ?_)
    show AWp _ _ _ _ _ _ _
    exact aT ⟨.inr rfl, _, Wk.refl _, rfl, rfl, trivial⟩
  | some ad =>
    refine aC rfl (fun hc => by cases hc) (fun hc => aK ?_)
    show AWp _ _ _ _ _ _ _
    refine aS (aR ?_)
    (refine nx (a_bslice0 (gN rfl) rfl rfl rfl rfl rfl rfl rfl rfl) rfl ?_)
    (refine nx (aM (gN rfl) rfl rfl rfl rfl rfl) rfl ?_)
    (refine nx (a_app0S (gN rfl) rfl rfl rfl rfl rfl rfl rfl rfl rfl rfl rfl rfl rfl rfl rfl (by first | rfl | omega | (simp only [List.length_set, List.length_map, List.length_append, List.length_cons, List.length_nil] <;> omega) | (simp <;> omega)) (by first | omega | (simp only [List.length_map, List.length_append, List.length_cons, List.length_nil] <;> omega) | (simp <;> omega))) rfl ?_)
    (refine nx (aA (gN rfl) rfl rfl rfl rfl rfl) rfl ?_)
    show AWp _ _ _ _ _ _ _
    exact aT ⟨.inr rfl, _, Wk.refl _, rfl, rfl, trivial⟩
-- 
theorem clInt400003_abs (pl : List Int) (hl : pl.length ≤ 1000000) : AFunO Try.prog 57 [(400003, .mrow 3 1 (pl.map CV.i))] [.sl 400003 0 pl.length 1] (.val (.lst (pl.map CV.i))) [(400003, .mrow 3 1 (pl.map CV.i))] := by
  have hlm : (pl.map CV.i).length = pl.length := List.length_map ..
  refine afunO_of Try.func57 Try.ntmps57 rfl rfl rfl rfl rfl rfl ?_
  intro w U hU
  refine aS (aR ?_)
  (refine nx (aA (gN rfl) rfl rfl rfl rfl rfl) rfl ?_)
  show AWp _ _ _ _ _ _ _
  refine AWp.handle 1 400003 rfl rfl rfl rfl fun ao cap hcap hao => ?_
  have hao' : ao = none → pl.length = 0 ∧ cap = 0 := fun e => by have := hao e; rw [hlm] at this; exact this
  refine aS (aS (aR ?_))
  (refine nx (aM (gN rfl) rfl rfl rfl rfl rfl) rfl ?_)
  (refine nx (a_nilS 1 (gN rfl) rfl rfl rfl rfl rfl rfl rfl rfl (hao')) rfl ?_)
  show AWp _ _ _ _ _ _ _
  cases ao with
  | none =>
    have hpl : pl = [] := List.eq_nil_of_length_eq_zero (hao' rfl).1
    subst hpl
    refine aC rfl (fun hc => ?_) (fun hc => by cases hc)
    refine aS (aR ?_)
    (refine nx (aA (gN rfl) rfl rfl rfl rfl rfl) rfl ?_)
    show AWp _ _ _ _ _ _ _
    exact aT ⟨.inr rfl, _, Wk.refl _, rfl, rfl, trivial⟩
  | some ad =>
    refine aC rfl (fun hc => by cases hc) (fun hc => aK ?_)
    show AWp _ _ _ _ _ _ _
    refine aS (aR ?_)
    (refine nx (a_bslice0 (gN rfl) rfl rfl rfl rfl rfl rfl rfl rfl) rfl ?_)
    (refine nx (aM (gN rfl) rfl rfl rfl rfl rfl) rfl ?_)
    (refine nx (a_app0S (gN rfl) rfl rfl rfl rfl rfl rfl rfl rfl rfl rfl rfl rfl rfl rfl rfl (by first | rfl | omega | (simp only [List.length_set, List.length_map, List.length_append, List.length_cons, List.length_nil] <;> omega) | (simp <;> omega)) (by first | omega | (simp only [List.length_map, List.length_append, List.length_cons, List.length_nil] <;> omega) | (simp <;> omega))) rfl ?_)
    (refine nx (aA (gN rfl) rfl rfl rfl rfl rfl) rfl ?_)
    show AWp _ _ _ _ _ _ _
    exact aT ⟨.inr rfl, _, Wk.refl _, rfl, rfl, trivial⟩
noncomputable def pm (p : Tm) (t : Tm) : List Int → List (List Int) :=
  Tm.rec (motive_1 := fun _ => List Int → List (List Int)) (motive_2 := fun _ => Nat → List Int → List (List Int))
    (fun f l ih pl => if f < 0 then [] else (if (mt p ⟨f, l⟩ []).1 = true then [pl] else []) ++ ih 0 pl)
    (fun _ _ => [])
    (fun _ _ ih1 ih2 i pl => ih1 (pl ++ [(i : Int)]) ++ ih2 (i + 1) pl) t
noncomputable def pmL (p : Tm) (l : List Tm) : Nat → List Int → List (List Int) :=
  Tm.rec_1 (motive_1 := fun _ => List Int → List (List Int)) (motive_2 := fun _ => Nat → List Int → List (List Int))
    (fun f l ih pl => if f < 0 then [] else (if (mt p ⟨f, l⟩ []).1 = true then [pl] else []) ++ ih 0 pl)
    (fun _ _ => [])
    (fun _ _ ih1 ih2 i pl => ih1 (pl ++ [(i : Int)]) ++ ih2 (i + 1) pl) l
theorem pm_eq (p t : Tm) (pl : List Int) : pm p t pl = if t.f < 0 then [] else (if (mt p t []).1 = true then [pl] else []) ++ pmL p t.l 0 pl := by cases t; rfl
theorem pmL_nil (p : Tm) (i : Nat) (pl : List Int) : pmL p [] i pl = [] := rfl
theorem pmL_cons (p t : Tm) (l : List Tm) (i : Nat) (pl : List Int) : pmL p (t :: l) i pl = pm p t (pl ++ [(i : Int)]) ++ pmL p l (i + 1) pl := rfl
theorem pmL_take {p t : Tm} : ∀ {l : List Tm} {k : Nat} (i : Nat) (pl : List Int), l[k]? = some t → pmL p (l.take (k + 1)) i pl = pmL p (l.take k) i pl ++ pm p t (pl ++ [((i + k : Nat) : Int)])
  | [], k, i, pl, h => by simp at h
  | x :: l, 0, i, pl, h => by simp at h; subst h; rw [List.take_succ_cons, pmL_cons, List.take_zero, List.take_zero, pmL_nil, pmL_nil]; simp
  | x :: l, k + 1, i, pl, h => by
    rw [List.take_succ_cons, List.take_succ_cons, pmL_cons, pmL_cons, pmL_take (i + 1) pl (by simpa using h), List.append_assoc, show i + 1 + k = i + (k + 1) by omega]
noncomputable abbrev plv (p : List Int) : CV := .lst (p.map CV.i)
theorem plv_size (l : List (List Int)) : ∀ c ∈ l.map plv, c.size = 1 := fun c hc => by
  obtain ⟨p, _, rfl⟩ := List.mem_map.1 hc
  rfl
theorem pmL_lenI {p : Tm} : ∀ (l : List Tm) (i : Nat) (pl : List Int), (∀ t ∈ l, ∀ pl, (pm p t pl).length ≤ t.flat.length) → (pmL p l i pl).length ≤ (l.flatMap Tm.flat).length
  | [], _, _, _ => by simp [pmL_nil]
  | t :: l, i, pl, h => by
    rw [pmL_cons, List.length_append, List.flatMap_cons, List.length_append]
    have h1 := h t (by simp) (pl ++ [(i : Int)])
    have h2 := pmL_lenI l (i + 1) pl fun s hs => h s (List.mem_cons_of_mem _ hs)
    omega
theorem pm_len (p t : Tm) : ∀ pl, (pm p t pl).length ≤ t.flat.length := by
  induction t using Tm.ind with
  | h f l ih =>
    intro pl
    rw [pm_eq]
    split
    · simp
    · rename_i hf
      have h1 := pmL_lenI l 0 pl ih
      rw [Tm.flat_eq, Tm.ps_of_sym (by show 0 ≤ f; have : ¬ f < 0 := hf; omega), List.length_cons, List.length_append]
      have : (if (mt p ⟨f, l⟩ []).1 = true then [pl] else []).length ≤ 1 := by split <;> simp
      show _ + (pmL p l 0 pl).length ≤ (l.flatMap Tm.flat).length + 1
      omega
theorem pmL_len (p : Tm) (l : List Tm) (i : Nat) (pl : List Int) : (pmL p l i pl).length ≤ (l.flatMap Tm.flat).length := pmL_lenI l i pl fun t _ => pm_len p t
theorem pm_sizes {f : Int} {l : List Tm} (hf : ¬ f < 0) {k : Nat} {x : Tm} (hx : l[k]? = some x) : 1 + ((l.take k).flatMap Tm.flat).length + x.size ≤ (Tm.mk f l).size := by
  have h1 : (Tm.mk f l).size = 1 + (l.flatMap Tm.flat).length := by rw [Tm.size_eq, Tm.ps_of_sym (by show 0 ≤ f; omega)]
  have h2 : (l.flatMap Tm.flat).length = ((l.take k).flatMap Tm.flat).length + ((l.drop k).flatMap Tm.flat).length := by
    conv => lhs; rw [← List.take_append_drop k l]
    rw [List.flatMap_append, List.length_append]
  have h3 : x.flat.length ≤ ((l.drop k).flatMap Tm.flat).length := flatMap_len_mem Tm.flat (List.mem_of_getElem? (i := 0) (by rw [List.getElem?_drop]; simpa using hx))
  have h4 : x.flat.length = x.size := rfl
  omega
theorem hUno9 {U : UX} {pre : List Nat} (hU : ∀ k v, U.f k = some v → hasN pre k = true) {n : Nat} (h : hasN pre n = false) : U.f n = none := by
  cases e : U.f n with
  | none => rfl
  | some v => rw [hU n v e] at h; cases h
-- 
set_option maxHeartbeats 8000000 in
theorem addParts_abs (p : Tm) (hpr : p.rng) (hpo : p.ok) (hpv : p.vs.length ≤ 65) : ∀ t : Tm, t.rng → t.ok → ∀ (Ls : List (List Int)) (pl : List Int), Ls.length + t.size ≤ 1000000 → pl.length + t.size ≤ 1000000 → AFunO Try.prog 41 [(300001, .mrow 54 1 ((Ls).map plv)), (400002, .mrow 3 1 ((pl).map CV.i))] [.sl 300001 0 (Ls).length 1, .sl 400002 0 (pl).length 1, .val p.cw, .val (t).cw] (.sl 300001 0 (Ls ++ pm p t pl).length 1) [(300001, .mrow 54 1 ((Ls ++ pm p t pl).map plv)), (400002, .mrow 3 1 ((pl).map CV.i))] ∧ AFunO Try.prog 41 [(300001, .mrow 54 1 ((Ls).map plv)), (400003, .mrow 3 1 ((pl).map CV.i))] [.sl 300001 0 (Ls).length 1, .sl 400003 0 (pl).length 1, .val p.cw, .val (t).cw] (.sl 300001 0 (Ls ++ pm p t pl).length 1) [(300001, .mrow 54 1 ((Ls ++ pm p t pl).map plv)), (400003, .mrow 3 1 ((pl).map CV.i))] := by
  intro t
  induction t using Tm.ind with
  | h f l ih =>
  intro hr hok Ls pl hb1 hb2
  have hr' := (Tm.rng_iff _).1 hr
  have hok' := (Tm.ok_iff _).1 hok
  simp only at hr' hok'
  have hsz := Tm.size_all l
  constructor
  · refine afunO_of Try.func41 Try.ntmps41 rfl rfl rfl rfl rfl rfl ?_
    intro w U hU
    have hfY : U.f 400003 = none := hUno9 hU (by kernel_rfl)
    refine aS (aR ?_)
    (refine nx (a_box (gN rfl) rfl rfl rfl rfl rfl) rfl ?_)
    (refine nx (a_box (gN rfl) rfl rfl rfl rfl rfl) rfl ?_)
    (refine nx (aA (gN rfl) rfl rfl rfl rfl rfl) rfl ?_)
    show AWp _ _ _ _ _ _ _
    refine aS (aS (aR ?_))
    (refine nx (aL (gN rfl) rfl rfl rfl rfl rfl rfl rfl rfl rfl rfl rfl rfl) rfl ?_)
    (refine nx (a_call (gN rfl) rfl rfl rfl rfl rfl (mIsVar_abs w ⟨f, l⟩)) rfl ?_)
    show AWp _ _ _ _ _ _ _
    refine aC rfl (fun hc => ?_) (fun hc => ?_)
    · have hf : f < 0 := by simpa using hc
      rw [pm_eq, if_pos hf, List.append_nil]
      refine aS (aR ?_)
      (refine nx (aM (gN rfl) rfl rfl rfl rfl rfl) rfl ?_)
      (refine nx (aA (gN rfl) rfl rfl rfl rfl rfl) rfl ?_)
      show AWp _ _ _ _ _ _ _
      exact aT ⟨.inr rfl, _, Wk.refl _, rfl, rfl, rfl, trivial⟩
    have hf : ¬ f < 0 := by simpa using hc
    rw [pm_eq, if_neg hf]
    refine aK ?_
    show AWp _ _ _ _ _ _ _
    have his := mIs_abs w p ⟨f, l⟩ hpr hpo hr hpv
    obtain ⟨L0, hL0⟩ : ∃ L0, L0 = Ls ++ (if (mt p ⟨f, l⟩ []).1 = true then [pl] else []) := ⟨_, rfl⟩
    rw [← List.append_assoc, ← hL0]
    have hL0l : L0.length ≤ Ls.length + 1 := by rw [hL0]; split <;> simp
    refine awp_mid ((0, AV.sl 300001 0 (L0).length 1) :: (1, .sl 400002 0 pl.length 1) :: (6, .bp 6 0 []) :: (100006, .bx p.cw) :: (7, .bp 7 0 []) :: (100007, .bx (Tm.cw ⟨f, l⟩)) :: (300001, .mrow 54 1 ((L0).map plv)) :: (400002, .mrow 3 1 (pl.map CV.i)) :: []) ?_ ?_
    · refine aS (aR ?_)
      (refine nx (aL (gN rfl) rfl rfl rfl rfl rfl rfl rfl rfl rfl rfl rfl rfl) rfl ?_)
      (refine nx (aL (gN rfl) rfl rfl rfl rfl rfl rfl rfl rfl rfl rfl rfl rfl) rfl ?_)
      (refine nx (a_call (gN rfl) rfl rfl rfl rfl rfl (his)) rfl ?_)
      show AWp _ _ _ _ _ _ _
      cases hm : (mt p ⟨f, l⟩ []).1 with
      | false =>
        rw [hm, if_neg (by simp), List.append_nil] at hL0
        rw [hL0]
        refine aC rfl (fun hc => by cases hc) (fun hc => aK ?_)
        exact wk_sub ⟨rfl, rfl, rfl, rfl, rfl, rfl, rfl, rfl, trivial⟩
      | true =>
        rw [hm, if_pos rfl] at hL0
        have hlp := plv_size Ls
        have hlm : (Ls.map plv).length = Ls.length := List.length_map ..
        refine aC rfl (fun hc => ?_) (fun hc => by cases hc)
        refine aR ?_
        (refine nx (aM (gN rfl) rfl rfl rfl rfl rfl) rfl ?_)
        (refine nx (aM (gN rfl) rfl rfl rfl rfl rfl) rfl ?_)
        (refine nx (a_callO (gN rfl) rfl rfl rfl rfl rfl (clInt400002_abs pl (by omega)) (by repeat (first | exact trivial | refine ⟨rfl, ?_⟩)) (by first | rfl | kernel_rfl) (by first | rfl | kernel_rfl) (by first | rfl | kernel_rfl) (by first | rfl | kernel_rfl) (hnb_of (by first | rfl | kernel_rfl))) rfl ?_)
        (refine nx (a_bslice (gN rfl) rfl rfl rfl rfl rfl rfl rfl rfl rfl rfl rfl rfl rfl) rfl ?_)
        (refine nx (a_appM 300021 (gN rfl) rfl rfl rfl rfl rfl rfl rfl rfl rfl rfl rfl rfl rfl (by first | rfl | omega | (simp only [List.length_set, List.length_map, List.length_append, List.length_cons, List.length_nil] <;> omega) | (simp <;> omega)) (by first | assumption | exact sZ rfl | exact Tm.size_all _ | exact Bd.size_all _ | exact ints_size _ | exact bys_size _ | exact Lt.size_all _) (by first | omega | (simp only [List.length_map, List.length_append, List.length_cons, List.length_nil] <;> omega) | (simp <;> omega))) rfl ?_)
        (refine nx (aA (gN rfl) rfl rfl rfl rfl rfl) rfl ?_)
        refine (wk_sub (s' := (0, AV.sl 300021 0 L0.length 1) :: (1, .sl 400002 0 pl.length 1) :: (6, .bp 6 0 []) :: (100006, .bx p.cw) :: (7, .bp 7 0 []) :: (100007, .bx (Tm.cw ⟨f, l⟩)) :: (300021, .mrow 54 1 (L0.map plv)) :: (400002, .mrow 3 1 (pl.map CV.i)) :: []) ⟨?_, rfl, rfl, rfl, rfl, rfl, ?_, rfl, trivial⟩).trans (wk_ren 300021 300001 rfl rfl (by kernel_rfl) (by kernel_rfl))
        · rw [hL0, List.length_append, ← hlm]; rfl
        · rw [hL0, List.map_append]; rfl
    refine aS (aS (aR ?_))
    (refine nx (aF (gN rfl) rfl rfl rfl rfl rfl rfl rfl rfl rfl) rfl ?_)
    (refine nx (aLb (gN rfl) rfl rfl rfl rfl rfl rfl rfl rfl rfl rfl rfl rfl) rfl ?_)
    (refine nx (a_len (gN rfl) rfl rfl rfl rfl rfl rfl rfl) rfl ?_)
    (refine nx (aM (gN rfl) rfl rfl rfl rfl rfl) rfl ?_)
    show AWp _ _ _ _ _ _ _
    refine aB (awp_count l.length (fun k => (0, AV.sl 300001 0 (L0 ++ pmL p (l.take k) 0 pl).length 1) :: (1, .sl 400002 0 pl.length 1) :: (6, .bp 6 0 []) :: (100006, .bx p.cw) :: (7, .bp 7 0 []) :: (100007, .bx (Tm.cw ⟨f, l⟩)) :: (23, .val (.lst (l.map Tm.cv))) :: (24, .val (.i (l.map Tm.cv).length)) :: (25, .val (.i (k))) :: (300001, .mrow 54 1 ((L0 ++ pmL p (l.take k) 0 pl).map plv)) :: (400002, .mrow 3 1 (pl.map CV.i)) :: []) (wk_sub ⟨?_, rfl, rfl, rfl, rfl, rfl, rfl, rfl, rfl, ?_, rfl, trivial⟩) ?_)
    · rw [List.take_zero, pmL_nil, List.append_nil]; rfl
    · rw [List.take_zero, pmL_nil, List.append_nil]; rfl
    intro k hk
    refine aS (aR ?_)
    (refine nx (a_lss (gN rfl) rfl rfl rfl rfl rfl rfl) rfl ?_)
    show AWp _ _ _ _ _ _ _
    refine aS (aC rfl (fun hlt => ?_) (fun hlt => ?_))
    · have hkl : k < l.length := by simpa using hlt
      obtain ⟨x, hx⟩ : ∃ x, l[k]? = some x := ⟨l[k], List.getElem?_eq_getElem hkl⟩
      have hx' := Tm.map_at hx
      have hxm := List.mem_of_getElem? hx
      obtain ⟨Lk, hLk⟩ : ∃ Lk, Lk = L0 ++ pmL p (l.take k) 0 pl := ⟨_, rfl⟩
      have hstep : L0 ++ pmL p (l.take (k + 1)) 0 pl = Lk ++ pm p x (pl ++ [(k : Int)]) := by rw [pmL_take 0 pl hx, ← List.append_assoc, ← hLk, Nat.zero_add]
      have hszs := pm_sizes hf hx
      have hpk := pmL_len p (l.take k) 0 pl
      have hLkl : Lk.length ≤ L0.length + ((l.take k).flatMap Tm.flat).length := by rw [hLk, List.length_append]; omega
      have hcall := (ih x hxm (hr'.2 x hxm) (hok'.2 x hxm) Lk (pl ++ [(k : Int)]) (by omega) (by rw [List.length_append]; simp only [List.length_cons, List.length_nil]; omega)).2
      have hpe : (pl ++ [(k : Int)]).length = (pl.map CV.i).length + [CV.i (k : Int)].length := by simp
      rw [hpe, List.map_append] at hcall
      have hlm : (pl.map CV.i).length = pl.length := List.length_map ..
      rw [← hLk]
      refine aK ?_
      show AWp _ _ _ _ _ _ _
      refine aS (aB (aS (aR ?_)))
      (refine nx (aM (gN rfl) rfl rfl rfl rfl rfl) rfl ?_)
      (refine nx (a_index (j := k) (gN rfl) rfl rfl rfl rfl rfl rfl rfl rfl rfl (hx') rfl (hsz)) rfl ?_)
      (refine nx (a_load_ad (gN rfl) rfl rfl rfl rfl rfl rfl rfl rfl rfl) rfl ?_)
      (refine nx (a_alloc (gN rfl) rfl rfl rfl rfl rfl rfl rfl rfl rfl rfl) rfl ?_)
      (refine nx (aA (gN rfl) rfl rfl rfl rfl rfl) rfl ?_)
      (refine nx (aSt (gN rfl) rfl rfl rfl rfl rfl rfl rfl rfl rfl rfl) rfl ?_)
      show AWp _ _ _ _ _ _ _
      refine AWp.handle 4 400002 rfl rfl rfl rfl fun ao cap hcap hao => ?_
      rcases Nat.lt_or_ge (pl.map CV.i).length cap with hroom | hroom
      · refine aD (by kernel_rfl) (by kernel_rfl) ?_
        (refine nx (aM (gN rfl) rfl rfl rfl rfl rfl) rfl ?_)
        (refine nx (aM (gN rfl) rfl rfl rfl rfl rfl) rfl ?_)
        (refine nx (aM (gN rfl) rfl rfl rfl rfl rfl) rfl ?_)
        (refine nx (a_bslice (gN rfl) rfl rfl rfl rfl rfl rfl rfl rfl rfl rfl rfl rfl rfl) rfl ?_)
        (refine nx (a_appR 400003 4 5 (gN rfl) rfl rfl rfl rfl rfl rfl rfl rfl rfl rfl rfl rfl rfl (hfY) (by first | rfl | omega | (simp only [List.length_set, List.length_map, List.length_append, List.length_cons, List.length_nil] <;> omega) | (simp <;> omega)) (by first | assumption | exact sZ rfl | exact Tm.size_all _ | exact Bd.size_all _ | exact ints_size _ | exact bys_size _ | exact Lt.size_all _) (by simp) (hroom)) rfl ?_)
        (refine nx (aL (gN rfl) rfl rfl rfl rfl rfl rfl rfl rfl rfl rfl rfl rfl) rfl ?_)
        (refine nx (aL (gN rfl) rfl rfl rfl rfl rfl rfl rfl rfl rfl rfl rfl rfl) rfl ?_)
        (refine nx (a_callOD ([0, 30]) (gN rfl) rfl rfl rfl rfl rfl (hcall) (by repeat (first | exact trivial | refine ⟨rfl, ?_⟩)) (by first | rfl | kernel_rfl) (by first | rfl | kernel_rfl) (by first | rfl | kernel_rfl) (by first | rfl | kernel_rfl) (hnb_of (by first | rfl | kernel_rfl)) (by first | rfl | kernel_rfl) (by first | rfl | kernel_rfl) (by first | rfl | kernel_rfl)) rfl ?_)
        (refine nx (aA (gN rfl) rfl rfl rfl rfl rfl) rfl ?_)
        refine ⟨by kernel_rfl, ?_⟩
        show AWp _ _ _ _ _ _ _
        refine AWp.wk (wk_again 400002 400003 4 5 (pl.map CV.i).length rfl rfl rfl rfl rfl rfl rfl (by simp)) ?_
        refine aR ?_
        (refine nx (a_add (gN rfl) rfl rfl rfl rfl rfl rfl (by first | omega | (simp only [List.length_map, List.length_append, List.length_cons, List.length_nil] <;> omega) | (simp <;> omega))) rfl ?_)
        (refine nx (aM (gN rfl) rfl rfl rfl rfl rfl) rfl ?_)
        refine ⟨hkl, ?_⟩
        show Wk _ _ _ _ ((0, AV.sl 300001 0 (L0 ++ pmL p (l.take (k + 1)) 0 pl).length 1) :: (1, .sl 400002 0 pl.length 1) :: (6, .bp 6 0 []) :: (100006, .bx p.cw) :: (7, .bp 7 0 []) :: (100007, .bx (Tm.cw ⟨f, l⟩)) :: (23, .val (.lst (l.map Tm.cv))) :: (24, .val (.i (l.map Tm.cv).length)) :: (25, .val (.i (((k + 1 : Nat) : Int)))) :: (300001, .mrow 54 1 ((L0 ++ pmL p (l.take (k + 1)) 0 pl).map plv)) :: (400002, .mrow 3 1 (pl.map CV.i)) :: [])
        rw [hstep]
        refine wk_sub ⟨rfl, rfl, rfl, rfl, rfl, rfl, rfl, rfl, rfl, rfl, ?_, trivial⟩
        show some (AV.mrow 3 1 ((pl.map CV.i ++ [CV.i (k : Int)]).take (pl.map CV.i).length)) = _
        rw [List.take_left' rfl]
      · have hce : cap = (pl.map CV.i).length := by omega
        subst hce
        refine aD (by kernel_rfl) (by kernel_rfl) ?_
        (refine nx (aM (gN rfl) rfl rfl rfl rfl rfl) rfl ?_)
        (refine nx (aM (gN rfl) rfl rfl rfl rfl rfl) rfl ?_)
        (refine nx (aM (gN rfl) rfl rfl rfl rfl rfl) rfl ?_)
        (refine nx (a_bslice (gN rfl) rfl rfl rfl rfl rfl rfl rfl rfl rfl rfl rfl rfl rfl) rfl ?_)
        (refine nx (a_appX 400003 4 (gN rfl) rfl rfl rfl rfl rfl rfl rfl rfl rfl rfl rfl rfl rfl rfl (hfY) (by first | rfl | omega | (simp only [List.length_set, List.length_map, List.length_append, List.length_cons, List.length_nil] <;> omega) | (simp <;> omega)) (by first | assumption | exact sZ rfl | exact Tm.size_all _ | exact Bd.size_all _ | exact ints_size _ | exact bys_size _ | exact Lt.size_all _) (by simp) (by first | omega | (simp only [List.length_map, List.length_append, List.length_cons, List.length_nil] <;> omega) | (simp <;> omega))) rfl ?_)
        (refine nx (aL (gN rfl) rfl rfl rfl rfl rfl rfl rfl rfl rfl rfl rfl rfl) rfl ?_)
        (refine nx (aL (gN rfl) rfl rfl rfl rfl rfl rfl rfl rfl rfl rfl rfl rfl) rfl ?_)
        (refine nx (a_callOD ([0, 30]) (gN rfl) rfl rfl rfl rfl rfl (hcall) (by repeat (first | exact trivial | refine ⟨rfl, ?_⟩)) (by first | rfl | kernel_rfl) (by first | rfl | kernel_rfl) (by first | rfl | kernel_rfl) (by first | rfl | kernel_rfl) (hnb_of (by first | rfl | kernel_rfl)) (by first | rfl | kernel_rfl) (by first | rfl | kernel_rfl) (by first | rfl | kernel_rfl)) rfl ?_)
        (refine nx (aA (gN rfl) rfl rfl rfl rfl rfl) rfl ?_)
        refine ⟨by kernel_rfl, ?_⟩
        show AWp _ _ _ _ _ _ _
        refine aR ?_
        (refine nx (a_add (gN rfl) rfl rfl rfl rfl rfl rfl (by first | omega | (simp only [List.length_map, List.length_append, List.length_cons, List.length_nil] <;> omega) | (simp <;> omega))) rfl ?_)
        (refine nx (aM (gN rfl) rfl rfl rfl rfl rfl) rfl ?_)
        refine ⟨hkl, ?_⟩
        show Wk _ _ _ _ ((0, AV.sl 300001 0 (L0 ++ pmL p (l.take (k + 1)) 0 pl).length 1) :: (1, .sl 400002 0 pl.length 1) :: (6, .bp 6 0 []) :: (100006, .bx p.cw) :: (7, .bp 7 0 []) :: (100007, .bx (Tm.cw ⟨f, l⟩)) :: (23, .val (.lst (l.map Tm.cv))) :: (24, .val (.i (l.map Tm.cv).length)) :: (25, .val (.i (((k + 1 : Nat) : Int)))) :: (300001, .mrow 54 1 ((L0 ++ pmL p (l.take (k + 1)) 0 pl).map plv)) :: (400002, .mrow 3 1 (pl.map CV.i)) :: [])
        rw [hstep]
        exact wk_sub ⟨rfl, rfl, rfl, rfl, rfl, rfl, rfl, rfl, rfl, rfl, rfl, trivial⟩
    · have hkl : k = l.length := by
        have : ¬ k < l.length := by simpa using hlt
        omega
      subst hkl
      rw [List.take_length]
      refine aE ?_
      show AWp _ _ _ _ _ _ _
      refine aS (aR ?_)
      (refine nx (aM (gN rfl) rfl rfl rfl rfl rfl) rfl ?_)
      (refine nx (aA (gN rfl) rfl rfl rfl rfl rfl) rfl ?_)
      show AWp _ _ _ _ _ _ _
      exact aT ⟨.inr rfl, _, Wk.refl _, rfl, rfl, rfl, trivial⟩
  · refine afunO_of Try.func41 Try.ntmps41 rfl rfl rfl rfl rfl rfl ?_
    intro w U hU
    have hfY : U.f 400002 = none := hUno9 hU (by kernel_rfl)
    refine aS (aR ?_)
    (refine nx (a_box (gN rfl) rfl rfl rfl rfl rfl) rfl ?_)
    (refine nx (a_box (gN rfl) rfl rfl rfl rfl rfl) rfl ?_)
    (refine nx (aA (gN rfl) rfl rfl rfl rfl rfl) rfl ?_)
    show AWp _ _ _ _ _ _ _
    refine aS (aS (aR ?_))
    (refine nx (aL (gN rfl) rfl rfl rfl rfl rfl rfl rfl rfl rfl rfl rfl rfl) rfl ?_)
    (refine nx (a_call (gN rfl) rfl rfl rfl rfl rfl (mIsVar_abs w ⟨f, l⟩)) rfl ?_)
    show AWp _ _ _ _ _ _ _
    refine aC rfl (fun hc => ?_) (fun hc => ?_)
    · have hf : f < 0 := by simpa using hc
      rw [pm_eq, if_pos hf, List.append_nil]
      refine aS (aR ?_)
      (refine nx (aM (gN rfl) rfl rfl rfl rfl rfl) rfl ?_)
      (refine nx (aA (gN rfl) rfl rfl rfl rfl rfl) rfl ?_)
      show AWp _ _ _ _ _ _ _
      exact aT ⟨.inr rfl, _, Wk.refl _, rfl, rfl, rfl, trivial⟩
    have hf : ¬ f < 0 := by simpa using hc
    rw [pm_eq, if_neg hf]
    refine aK ?_
    show AWp _ _ _ _ _ _ _
    have his := mIs_abs w p ⟨f, l⟩ hpr hpo hr hpv
    obtain ⟨L0, hL0⟩ : ∃ L0, L0 = Ls ++ (if (mt p ⟨f, l⟩ []).1 = true then [pl] else []) := ⟨_, rfl⟩
    rw [← List.append_assoc, ← hL0]
    have hL0l : L0.length ≤ Ls.length + 1 := by rw [hL0]; split <;> simp
    refine awp_mid ((0, AV.sl 300001 0 (L0).length 1) :: (1, .sl 400003 0 pl.length 1) :: (6, .bp 6 0 []) :: (100006, .bx p.cw) :: (7, .bp 7 0 []) :: (100007, .bx (Tm.cw ⟨f, l⟩)) :: (300001, .mrow 54 1 ((L0).map plv)) :: (400003, .mrow 3 1 (pl.map CV.i)) :: []) ?_ ?_
    · refine aS (aR ?_)
      (refine nx (aL (gN rfl) rfl rfl rfl rfl rfl rfl rfl rfl rfl rfl rfl rfl) rfl ?_)
      (refine nx (aL (gN rfl) rfl rfl rfl rfl rfl rfl rfl rfl rfl rfl rfl rfl) rfl ?_)
      (refine nx (a_call (gN rfl) rfl rfl rfl rfl rfl (his)) rfl ?_)
      show AWp _ _ _ _ _ _ _
      cases hm : (mt p ⟨f, l⟩ []).1 with
      | false =>
        rw [hm, if_neg (by simp), List.append_nil] at hL0
        rw [hL0]
        refine aC rfl (fun hc => by cases hc) (fun hc => aK ?_)
        exact wk_sub ⟨rfl, rfl, rfl, rfl, rfl, rfl, rfl, rfl, trivial⟩
      | true =>
        rw [hm, if_pos rfl] at hL0
        have hlp := plv_size Ls
        have hlm : (Ls.map plv).length = Ls.length := List.length_map ..
        refine aC rfl (fun hc => ?_) (fun hc => by cases hc)
        refine aR ?_
        (refine nx (aM (gN rfl) rfl rfl rfl rfl rfl) rfl ?_)
        (refine nx (aM (gN rfl) rfl rfl rfl rfl rfl) rfl ?_)
        (refine nx (a_callO (gN rfl) rfl rfl rfl rfl rfl (clInt400003_abs pl (by omega)) (by repeat (first | exact trivial | refine ⟨rfl, ?_⟩)) (by first | rfl | kernel_rfl) (by first | rfl | kernel_rfl) (by first | rfl | kernel_rfl) (by first | rfl | kernel_rfl) (hnb_of (by first | rfl | kernel_rfl))) rfl ?_)
        (refine nx (a_bslice (gN rfl) rfl rfl rfl rfl rfl rfl rfl rfl rfl rfl rfl rfl rfl) rfl ?_)
        (refine nx (a_appM 300021 (gN rfl) rfl rfl rfl rfl rfl rfl rfl rfl rfl rfl rfl rfl rfl (by first | rfl | omega | (simp only [List.length_set, List.length_map, List.length_append, List.length_cons, List.length_nil] <;> omega) | (simp <;> omega)) (by first | assumption | exact sZ rfl | exact Tm.size_all _ | exact Bd.size_all _ | exact ints_size _ | exact bys_size _ | exact Lt.size_all _) (by first | omega | (simp only [List.length_map, List.length_append, List.length_cons, List.length_nil] <;> omega) | (simp <;> omega))) rfl ?_)
        (refine nx (aA (gN rfl) rfl rfl rfl rfl rfl) rfl ?_)
        refine (wk_sub (s' := (0, AV.sl 300021 0 L0.length 1) :: (1, .sl 400003 0 pl.length 1) :: (6, .bp 6 0 []) :: (100006, .bx p.cw) :: (7, .bp 7 0 []) :: (100007, .bx (Tm.cw ⟨f, l⟩)) :: (300021, .mrow 54 1 (L0.map plv)) :: (400003, .mrow 3 1 (pl.map CV.i)) :: []) ⟨?_, rfl, rfl, rfl, rfl, rfl, ?_, rfl, trivial⟩).trans (wk_ren 300021 300001 rfl rfl (by kernel_rfl) (by kernel_rfl))
        · rw [hL0, List.length_append, ← hlm]; rfl
        · rw [hL0, List.map_append]; rfl
    refine aS (aS (aR ?_))
    (refine nx (aF (gN rfl) rfl rfl rfl rfl rfl rfl rfl rfl rfl) rfl ?_)
    (refine nx (aLb (gN rfl) rfl rfl rfl rfl rfl rfl rfl rfl rfl rfl rfl rfl) rfl ?_)
    (refine nx (a_len (gN rfl) rfl rfl rfl rfl rfl rfl rfl) rfl ?_)
    (refine nx (aM (gN rfl) rfl rfl rfl rfl rfl) rfl ?_)
    show AWp _ _ _ _ _ _ _
    refine aB (awp_count l.length (fun k => (0, AV.sl 300001 0 (L0 ++ pmL p (l.take k) 0 pl).length 1) :: (1, .sl 400003 0 pl.length 1) :: (6, .bp 6 0 []) :: (100006, .bx p.cw) :: (7, .bp 7 0 []) :: (100007, .bx (Tm.cw ⟨f, l⟩)) :: (23, .val (.lst (l.map Tm.cv))) :: (24, .val (.i (l.map Tm.cv).length)) :: (25, .val (.i (k))) :: (300001, .mrow 54 1 ((L0 ++ pmL p (l.take k) 0 pl).map plv)) :: (400003, .mrow 3 1 (pl.map CV.i)) :: []) (wk_sub ⟨?_, rfl, rfl, rfl, rfl, rfl, rfl, rfl, rfl, ?_, rfl, trivial⟩) ?_)
    · rw [List.take_zero, pmL_nil, List.append_nil]; rfl
    · rw [List.take_zero, pmL_nil, List.append_nil]; rfl
    intro k hk
    refine aS (aR ?_)
    (refine nx (a_lss (gN rfl) rfl rfl rfl rfl rfl rfl) rfl ?_)
    show AWp _ _ _ _ _ _ _
    refine aS (aC rfl (fun hlt => ?_) (fun hlt => ?_))
    · have hkl : k < l.length := by simpa using hlt
      obtain ⟨x, hx⟩ : ∃ x, l[k]? = some x := ⟨l[k], List.getElem?_eq_getElem hkl⟩
      have hx' := Tm.map_at hx
      have hxm := List.mem_of_getElem? hx
      obtain ⟨Lk, hLk⟩ : ∃ Lk, Lk = L0 ++ pmL p (l.take k) 0 pl := ⟨_, rfl⟩
      have hstep : L0 ++ pmL p (l.take (k + 1)) 0 pl = Lk ++ pm p x (pl ++ [(k : Int)]) := by rw [pmL_take 0 pl hx, ← List.append_assoc, ← hLk, Nat.zero_add]
      have hszs := pm_sizes hf hx
      have hpk := pmL_len p (l.take k) 0 pl
      have hLkl : Lk.length ≤ L0.length + ((l.take k).flatMap Tm.flat).length := by rw [hLk, List.length_append]; omega
      have hcall := (ih x hxm (hr'.2 x hxm) (hok'.2 x hxm) Lk (pl ++ [(k : Int)]) (by omega) (by rw [List.length_append]; simp only [List.length_cons, List.length_nil]; omega)).1
      have hpe : (pl ++ [(k : Int)]).length = (pl.map CV.i).length + [CV.i (k : Int)].length := by simp
      rw [hpe, List.map_append] at hcall
      have hlm : (pl.map CV.i).length = pl.length := List.length_map ..
      rw [← hLk]
      refine aK ?_
      show AWp _ _ _ _ _ _ _
      refine aS (aB (aS (aR ?_)))
      (refine nx (aM (gN rfl) rfl rfl rfl rfl rfl) rfl ?_)
      (refine nx (a_index (j := k) (gN rfl) rfl rfl rfl rfl rfl rfl rfl rfl rfl (hx') rfl (hsz)) rfl ?_)
      (refine nx (a_load_ad (gN rfl) rfl rfl rfl rfl rfl rfl rfl rfl rfl) rfl ?_)
      (refine nx (a_alloc (gN rfl) rfl rfl rfl rfl rfl rfl rfl rfl rfl rfl) rfl ?_)
      (refine nx (aA (gN rfl) rfl rfl rfl rfl rfl) rfl ?_)
      (refine nx (aSt (gN rfl) rfl rfl rfl rfl rfl rfl rfl rfl rfl rfl) rfl ?_)
      show AWp _ _ _ _ _ _ _
      refine AWp.handle 4 400003 rfl rfl rfl rfl fun ao cap hcap hao => ?_
      rcases Nat.lt_or_ge (pl.map CV.i).length cap with hroom | hroom
      · refine aD (by kernel_rfl) (by kernel_rfl) ?_
        (refine nx (aM (gN rfl) rfl rfl rfl rfl rfl) rfl ?_)
        (refine nx (aM (gN rfl) rfl rfl rfl rfl rfl) rfl ?_)
        (refine nx (aM (gN rfl) rfl rfl rfl rfl rfl) rfl ?_)
        (refine nx (a_bslice (gN rfl) rfl rfl rfl rfl rfl rfl rfl rfl rfl rfl rfl rfl rfl) rfl ?_)
        (refine nx (a_appR 400002 4 5 (gN rfl) rfl rfl rfl rfl rfl rfl rfl rfl rfl rfl rfl rfl rfl (hfY) (by first | rfl | omega | (simp only [List.length_set, List.length_map, List.length_append, List.length_cons, List.length_nil] <;> omega) | (simp <;> omega)) (by first | assumption | exact sZ rfl | exact Tm.size_all _ | exact Bd.size_all _ | exact ints_size _ | exact bys_size _ | exact Lt.size_all _) (by simp) (hroom)) rfl ?_)
        (refine nx (aL (gN rfl) rfl rfl rfl rfl rfl rfl rfl rfl rfl rfl rfl rfl) rfl ?_)
        (refine nx (aL (gN rfl) rfl rfl rfl rfl rfl rfl rfl rfl rfl rfl rfl rfl) rfl ?_)
        (refine nx (a_callOD ([0, 30]) (gN rfl) rfl rfl rfl rfl rfl (hcall) (by repeat (first | exact trivial | refine ⟨rfl, ?_⟩)) (by first | rfl | kernel_rfl) (by first | rfl | kernel_rfl) (by first | rfl | kernel_rfl) (by first | rfl | kernel_rfl) (hnb_of (by first | rfl | kernel_rfl)) (by first | rfl | kernel_rfl) (by first | rfl | kernel_rfl) (by first | rfl | kernel_rfl)) rfl ?_)
        (refine nx (aA (gN rfl) rfl rfl rfl rfl rfl) rfl ?_)
        refine ⟨by kernel_rfl, ?_⟩
        show AWp _ _ _ _ _ _ _
        refine AWp.wk (wk_again 400003 400002 4 5 (pl.map CV.i).length rfl rfl rfl rfl rfl rfl rfl (by simp)) ?_
        refine aR ?_
        (refine nx (a_add (gN rfl) rfl rfl rfl rfl rfl rfl (by first | omega | (simp only [List.length_map, List.length_append, List.length_cons, List.length_nil] <;> omega) | (simp <;> omega))) rfl ?_)
        (refine nx (aM (gN rfl) rfl rfl rfl rfl rfl) rfl ?_)
        refine ⟨hkl, ?_⟩
        show Wk _ _ _ _ ((0, AV.sl 300001 0 (L0 ++ pmL p (l.take (k + 1)) 0 pl).length 1) :: (1, .sl 400003 0 pl.length 1) :: (6, .bp 6 0 []) :: (100006, .bx p.cw) :: (7, .bp 7 0 []) :: (100007, .bx (Tm.cw ⟨f, l⟩)) :: (23, .val (.lst (l.map Tm.cv))) :: (24, .val (.i (l.map Tm.cv).length)) :: (25, .val (.i (((k + 1 : Nat) : Int)))) :: (300001, .mrow 54 1 ((L0 ++ pmL p (l.take (k + 1)) 0 pl).map plv)) :: (400003, .mrow 3 1 (pl.map CV.i)) :: [])
        rw [hstep]
        refine wk_sub ⟨rfl, rfl, rfl, rfl, rfl, rfl, rfl, rfl, rfl, rfl, ?_, trivial⟩
        show some (AV.mrow 3 1 ((pl.map CV.i ++ [CV.i (k : Int)]).take (pl.map CV.i).length)) = _
        rw [List.take_left' rfl]
      · have hce : cap = (pl.map CV.i).length := by omega
        subst hce
        refine aD (by kernel_rfl) (by kernel_rfl) ?_
        (refine nx (aM (gN rfl) rfl rfl rfl rfl rfl) rfl ?_)
        (refine nx (aM (gN rfl) rfl rfl rfl rfl rfl) rfl ?_)
        (refine nx (aM (gN rfl) rfl rfl rfl rfl rfl) rfl ?_)
        (refine nx (a_bslice (gN rfl) rfl rfl rfl rfl rfl rfl rfl rfl rfl rfl rfl rfl rfl) rfl ?_)
        (refine nx (a_appX 400002 4 (gN rfl) rfl rfl rfl rfl rfl rfl rfl rfl rfl rfl rfl rfl rfl rfl (hfY) (by first | rfl | omega | (simp only [List.length_set, List.length_map, List.length_append, List.length_cons, List.length_nil] <;> omega) | (simp <;> omega)) (by first | assumption | exact sZ rfl | exact Tm.size_all _ | exact Bd.size_all _ | exact ints_size _ | exact bys_size _ | exact Lt.size_all _) (by simp) (by first | omega | (simp only [List.length_map, List.length_append, List.length_cons, List.length_nil] <;> omega) | (simp <;> omega))) rfl ?_)
        (refine nx (aL (gN rfl) rfl rfl rfl rfl rfl rfl rfl rfl rfl rfl rfl rfl) rfl ?_)
        (refine nx (aL (gN rfl) rfl rfl rfl rfl rfl rfl rfl rfl rfl rfl rfl rfl) rfl ?_)
        (refine nx (a_callOD ([0, 30]) (gN rfl) rfl rfl rfl rfl rfl (hcall) (by repeat (first | exact trivial | refine ⟨rfl, ?_⟩)) (by first | rfl | kernel_rfl) (by first | rfl | kernel_rfl) (by first | rfl | kernel_rfl) (by first | rfl | kernel_rfl) (hnb_of (by first | rfl | kernel_rfl)) (by first | rfl | kernel_rfl) (by first | rfl | kernel_rfl) (by first | rfl | kernel_rfl)) rfl ?_)
        (refine nx (aA (gN rfl) rfl rfl rfl rfl rfl) rfl ?_)
        refine ⟨by kernel_rfl, ?_⟩
        show AWp _ _ _ _ _ _ _
        refine aR ?_
        (refine nx (a_add (gN rfl) rfl rfl rfl rfl rfl rfl (by first | omega | (simp only [List.length_map, List.length_append, List.length_cons, List.length_nil] <;> omega) | (simp <;> omega))) rfl ?_)
        (refine nx (aM (gN rfl) rfl rfl rfl rfl rfl) rfl ?_)
        refine ⟨hkl, ?_⟩
        show Wk _ _ _ _ ((0, AV.sl 300001 0 (L0 ++ pmL p (l.take (k + 1)) 0 pl).length 1) :: (1, .sl 400003 0 pl.length 1) :: (6, .bp 6 0 []) :: (100006, .bx p.cw) :: (7, .bp 7 0 []) :: (100007, .bx (Tm.cw ⟨f, l⟩)) :: (23, .val (.lst (l.map Tm.cv))) :: (24, .val (.i (l.map Tm.cv).length)) :: (25, .val (.i (((k + 1 : Nat) : Int)))) :: (300001, .mrow 54 1 ((L0 ++ pmL p (l.take (k + 1)) 0 pl).map plv)) :: (400003, .mrow 3 1 (pl.map CV.i)) :: [])
        rw [hstep]
        exact wk_sub ⟨rfl, rfl, rfl, rfl, rfl, rfl, rfl, rfl, rfl, rfl, rfl, trivial⟩
    · have hkl : k = l.length := by
        have : ¬ k < l.length := by simpa using hlt
        omega
      subst hkl
      rw [List.take_length]
      refine aE ?_
      show AWp _ _ _ _ _ _ _
      refine aS (aR ?_)
      (refine nx (aM (gN rfl) rfl rfl rfl rfl rfl) rfl ?_)
      (refine nx (aA (gN rfl) rfl rfl rfl rfl rfl) rfl ?_)
      show AWp _ _ _ _ _ _ _
      exact aT ⟨.inr rfl, _, Wk.refl _, rfl, rfl, rfl, trivial⟩
theorem nil_rep {U : Nat → Nat → Prop} {w : World} {hv : Nat → Value} {s : AS} {v : Value} (h : AVRep U w hv (LiveN s) ⟨0, .lst [], 1, 0, []⟩ v) : v = .slice none 0 0 := by
  obtain ⟨h1, h2⟩ : VRep U w (.lst []) v ∧ Tk hv (LiveN s) ⟨0, .lst [], 1, 0, []⟩ v.cells.toList := h
  obtain ⟨m, c, g1, g2⟩ := h2 (.inl rfl)
  simp only at g1
  rw [at_nil] at g1
  cases g1
  obtain ⟨ao, k, c, e1, _⟩ := vrep_lst.1 h1
  rw [e1] at g2 ⊢
  simpa [Value.cells, tokv] using g2
theorem addParts_nil (p t : Tm) (hpr : p.rng) (hpo : p.ok) (hpv : p.vs.length ≤ 65) (hr : t.rng) (hok : t.ok) (hs : t.size ≤ 1000000) : AFunO Try.prog 41 [] [⟨0, .lst [], 1, 0, []⟩, ⟨0, .lst [], 1, 0, []⟩, .val p.cw, .val t.cw] (.sl 300001 0 (pm p t []).length 1) [(300001, .mrow 54 1 ((pm p t []).map plv)), (400002, .mrow 3 1 [])] := by
  have h := (addParts_abs p hpr hpo hpv t hr hok [] [] (by simpa using hs) (by simpa using hs)).1
  rw [List.nil_append] at h
  refine ⟨h.1, fun U w hv a0 vs hU hpS hargs => ?_⟩
  obtain ⟨v1, us1, rfl, g1, v2, us2, rfl, g2, v3, us3, rfl, g3, v4, us4, rfl, g4, rfl⟩ := hargs
  have e1 := nil_rep g1
  have e2 := nil_rep g2
  subst e1
  subst e2
  have hno : ∀ k v, U.f k = some v → False := fun k v hk => by have := hU k v hk; cases this
  have hlk : ∀ {k av}, look [(300001, AV.mrow 54 1 (([] : List (List Int)).map plv)), (400002, AV.mrow 3 1 (([] : List Int).map CV.i))] k = some av → (k = 300001 ∧ av = AV.mrow 54 1 []) ∨ (k = 400002 ∧ av = AV.mrow 3 1 []) := fun {k av} hk => by
    rw [look_cons] at hk
    split at hk
    · rename_i e; cases hk; exact .inl ⟨e.symm, rfl⟩
    rw [look_cons] at hk
    split at hk
    · rename_i e; cases hk; exact .inr ⟨e.symm, rfl⟩
    · cases hk
  refine h.2 U w (fun _ => .slice none 0 0) ⟨#[], []⟩ _ (fun k v hk => (hno k v hk).elim) ⟨BelowX.refl _ _, rfl, rfl, fun d av k1 k2 => ?_, fun m o av k1 k2 k3 k4 => ?_, fun m o o' av av' k1 k2 k3 k4 k5 => ?_, fun k av k1 k2 => ?_, (fun k av g k1 k2 k3 k4 => by cases k4), (fun k k' av av' g k1 k2 k3 k4 k5 k6 k7 k8 => by cases k8), fun k v hk => (hno k v hk).elim, fun b o hd => hd.elim⟩ ?_
  · rcases hlk k1 with ⟨e, _⟩ | ⟨e, _⟩ <;> omega
  · rcases hlk k1 with ⟨e, _⟩ | ⟨e, _⟩ <;> (unfold fKey at e; omega)
  · rcases hlk k1 with ⟨e, _⟩ | ⟨e, _⟩ <;> (unfold fKey at e; omega)
  · rcases hlk k1 with ⟨e, rfl⟩ | ⟨e, rfl⟩
    · exact ⟨[], World.ownsRow_nil _ _ _ _, by decide, (fun c hc => by cases hc), rfl⟩
    · exact ⟨[], World.ownsRow_nil _ _ _ _, by decide, (fun c hc => by cases hc), rfl⟩
  · refine ⟨_, _, rfl, ⟨⟨by decide, by decide⟩, slV_all rfl (Nat.le_refl _) (.inl rfl)⟩, _, _, rfl, ⟨⟨by decide, by decide⟩, slV_all rfl (Nat.le_refl _) (.inl rfl)⟩, _, _, rfl, avrep_val g3.1, _, _, rfl, avrep_val g4.1, rfl⟩
-- 
theorem mParts_abs (W : World) (p t : Tm) (hpr : p.rng) (hpo : p.ok) (hpv : p.vs.length ≤ 65) (hr : t.rng) (hok : t.ok) (hs : t.size ≤ 1000000) : AFun Try.prog W 24 [p.cw, t.cw] (.val (.lst ((pm p t []).map plv))) := by
  have hlm : ((pm p t []).map plv).length = (pm p t []).length := List.length_map ..
  refine afun_of (rs := [.lst ((pm p t []).map plv)]) Try.func24 Try.ntmps24 rfl rfl rfl rfl ?_
  intro w U hW
  refine aS (aR ?_)
  (refine nx (a_box (gN rfl) rfl rfl rfl rfl rfl) rfl ?_)
  (refine nx (a_box (gN rfl) rfl rfl rfl rfl rfl) rfl ?_)
  (refine nx (aA (gN rfl) rfl rfl rfl rfl rfl) rfl ?_)
  show AWp _ _ _ _ _ _ _
  refine aS (aR ?_)
  (refine nx (aL (gN rfl) rfl rfl rfl rfl rfl rfl rfl rfl rfl rfl rfl rfl) rfl ?_)
  (refine nx (aL (gN rfl) rfl rfl rfl rfl rfl rfl rfl rfl rfl rfl rfl rfl) rfl ?_)
  (refine nx (a_callO (gN rfl) rfl rfl rfl rfl rfl (addParts_nil p t hpr hpo hpv hr hok hs) (by repeat (first | exact trivial | refine ⟨rfl, ?_⟩)) (by first | rfl | kernel_rfl) (by first | rfl | kernel_rfl) (by first | rfl | kernel_rfl) (by first | rfl | kernel_rfl) (fun k v h => by first | (rw [hW.1] at h; cases h) | (have h2 := hU k v h; cases h2))) rfl ?_)
  (refine nx (aA (gN rfl) rfl rfl rfl rfl rfl) rfl ?_)
  show AWp _ _ _ _ _ _ _
  refine AWp.wk (wk_frz 4 300001 rfl rfl rfl (.inl hW.2) (by rw [hlm]; omega) (s' := []) trivial rfl) ?_
  rw [List.drop_zero, ← hlm, List.take_length]
  exact aT (And.intro (.inr rfl) rfl)
theorem puN_nil (t u : Tm) : puN t [] u = u := by unfold puN; rfl
theorem puN_cons {t s : Tm} {i : Nat} (p : List Nat) (u : Tm) (h : t.l[i]? = some s) : puN t (i :: p) u = ⟨t.f, t.l.set i (puN s p u)⟩ := by rw [puN, h]
theorem atN_cons {t y : Tm} {i : Nat} {p : List Nat} (h : atN t (i :: p) = some y) : ∃ s, t.l[i]? = some s ∧ atN s p = some y := by
  unfold atN at h
  cases e : t.l[i]? with
  | none => rw [e] at h; cases h
  | some s => rw [e] at h; exact ⟨s, rfl, h⟩
theorem puN_rng {u : Tm} (hu : u.rng) : ∀ (p : List Nat) (t y : Tm), atN t p = some y → t.rng → (puN t p u).rng
  | [], t, _, _, _ => by rw [puN_nil]; exact hu
  | i :: p, t, y, h, ht => by
    obtain ⟨s, hs, h2⟩ := atN_cons h
    rw [puN_cons p u hs]
    rw [Tm.rng_iff] at ht ⊢
    refine ⟨ht.1, fun x hx => ?_⟩
    rcases List.mem_or_eq_of_mem_set hx with h3 | h3
    · exact ht.2 x h3
    · rw [h3]; exact puN_rng hu p s y h2 (ht.2 s (List.mem_of_getElem? hs))
theorem puN_ok {u : Tm} (hu : u.ok) : ∀ (p : List Nat) (t y : Tm), atN t p = some y → t.ok → (puN t p u).ok
  | [], t, _, _, _ => by rw [puN_nil]; exact hu
  | i :: p, t, y, h, ht => by
    obtain ⟨s, hs, h2⟩ := atN_cons h
    rw [puN_cons p u hs]
    rw [Tm.ok_iff] at ht ⊢
    refine ⟨by show (t.l.set i _).length ≤ _; rw [List.length_set]; exact ht.1, fun x hx => ?_⟩
    rcases List.mem_or_eq_of_mem_set hx with h3 | h3
    · exact ht.2 x h3
    · rw [h3]; exact puN_ok hu p s y h2 (ht.2 s (List.mem_of_getElem? hs))
theorem sym_of_kid {t s : Tm} (h : t.strip = t) (hs : s ∈ t.l) : ¬ t.f < 0 := fun hf => by
  have := (strip_kid h hs).2
  unfold Tm.ps at this
  rw [if_pos hf] at this
  cases this
theorem puN_bare {u : Tm} (hu : u.strip = u) : ∀ (p : List Nat) (t y : Tm), atN t p = some y → t.strip = t → (puN t p u).strip = puN t p u
  | [], t, _, _, _ => by rw [puN_nil]; exact hu
  | i :: p, t, y, h, ht => by
    obtain ⟨s, hs, h2⟩ := atN_cons h
    have hm := List.mem_of_getElem? hs
    have hf := sym_of_kid ht hm
    rw [puN_cons p u hs, stripSym (t := ⟨t.f, _⟩) hf]
    congr 1
    show (t.l.set i _).map Tm.strip = t.l.set i _
    conv => rhs; rw [← List.map_id (t.l.set i _)]
    refine List.map_congr_left fun x hx => ?_
    rcases List.mem_or_eq_of_mem_set hx with h3 | h3
    · exact (strip_kid ht h3).1
    · rw [h3]; exact puN_bare hu p s y h2 (strip_kid ht hm).1
theorem kb_puN (u : Tm) : ∀ (p : List Nat) (t y : Tm), t.strip = t → atN t p = some y → kb t (puN t p u) = kb y u
  | [], t, y, _, h => by rw [puN_nil]; cases h; rfl
  | i :: p, t, y, ht, h => by
    obtain ⟨s, hs, h2⟩ := atN_cons h
    have hm := List.mem_of_getElem? hs
    have hf := sym_of_kid ht hm
    rw [puN_cons p u hs]
    have hi : i < t.l.length := (List.getElem?_eq_some_iff.1 hs).1
    have hsi : t.l[i] = s := (List.getElem?_eq_some_iff.1 hs).2
    have e2 : t = ⟨t.f, t.l.take i ++ s :: t.l.drop (i + 1)⟩ := by
      have : t.l.take i ++ s :: t.l.drop (i + 1) = t.l := by rw [← hsi, List.getElem_cons_drop, List.take_append_drop]
      rw [this]
      cases t; rfl
    have e3 : t.l.set i (puN s p u) = t.l.take i ++ puN s p u :: t.l.drop (i + 1) := by rw [List.set_eq_take_append_cons_drop, if_pos hi]
    rw [e3]
    conv => lhs; arg 1; rw [e2]
    exact (kb_ctx hf _ s _ _).trans (kb_puN u p s y (strip_kid ht hm).1 h2)
theorem trm_step {R : List RuT} (hR : ∀ r ∈ R, RuOk r) {x s : Tm} {id : Int} (hb : x.strip = x) (hx : x.rng) (hxo : x.ok) (hxs : x.size ≤ 90000000000) (h : trm R x = some (s, id)) : kb x s = 1 ∧ s.strip = s ∧ s.rng ∧ s.ok ∧ s.size ≤ x.size ∧ ∃ r ∈ R, r.id = id := by
  unfold trm at h
  cases e : fst1 (hitR R) x with
  | none => rw [e] at h; cases h
  | some p =>
    rw [e] at h
    simp only at h
    cases e2 : atN x p with
    | none => rw [e2] at h; cases h
    | some y =>
      rw [e2] at h
      simp only at h
      cases e3 : R.find? (fun r => (mt r.a y []).1) with
      | none => rw [e3] at h; cases h
      | some r =>
        rw [e3] at h
        simp only [Option.some.injEq, Prod.mk.injEq] at h
        obtain ⟨rfl, rfl⟩ := h
        have hm : (mt r.a y []).1 = true := by simpa using List.find?_some e3
        have hr := List.mem_of_find?_eq_some e3
        have hk := hR r hr
        obtain ⟨y1, y2, y3⟩ := atN_facts hb hx e2
        have hyo : y.ok := by
          have : ∀ (p : List Nat) (t y : Tm), atN t p = some y → t.ok → y.ok := by
            intro p
            induction p with
            | nil => intro t y h ht; cases h; exact ht
            | cons i p ih =>
              intro t y h ht
              obtain ⟨s, hs, h2⟩ := atN_cons h
              exact ih s y h2 ((Tm.ok_iff t).1 ht |>.2 s (List.mem_of_getElem? hs))
          exact this p x y e2 hxo
        have hbo : bdsOk (mt r.a y []).2 := fun b hb2 => ⟨rngL.mt r.a y [] y2 (fun _ h => by cases h) b hb2, by
          rcases mt_size r.a y [] b hb2 with h | h
          · cases h
          · omega⟩
        have hur : (usR r y).rng := repT_rng hk.br fun v h1 h2 => (imgB_ok hbo h1 h2).1
        have huo : (usR r y).ok := repT_ok hk.bo fun v => imgB_ok2 (fun b hb2 => by
          rcases mt_okL r.a y [] hyo b hb2 with h | h
          · cases h
          · exact h) v
        have hub : (usR r y).strip = usR r y := rep_bare _ _
        have hkb : kb x (puN x p (usR r y)) = 1 := by
          rw [kb_puN _ p x y hb e2]
          have h1 := kb_rep1 (imgB (mt r.a y []).2) r.a r.b hk.k
          rw [mt_rep hm, kb_stripL] at h1
          exact h1
        refine ⟨hkb, puN_bare hub p x y e2 hb, puN_rng hur p x y e2 hx, puN_ok huo p x y e2 hxo, ?_, r, hr, rfl⟩
        rcases ((kb_one _ _).1 hkb).2 with h | h
        · omega
        · omega
theorem trm_none2 {R : List RuT} {x : Tm} (h : trm R x = none) : fst1 (hitR R) x = none := by
  cases e : fst1 (hitR R) x with
  | none => rfl
  | some p =>
    obtain ⟨y, h1, _, h2⟩ := fst1_spec _ e
    obtain ⟨r, hr, h3⟩ := List.any_eq_true.1 h2
    cases e3 : R.find? (fun r => (mt r.a y []).1) with
    | none => exact absurd h3 (by simpa using List.find?_eq_none.1 e3 r hr)
    | some r => rw [trm_some e h1 e3] at h; cases h
theorem pmL_none {p : Tm} : ∀ {l : List Tm} (i : Nat) (pl : List Int), (∀ s ∈ l, ∀ pl, pm p s pl = []) → pmL p l i pl = []
  | [], i, pl, _ => pmL_nil p i pl
  | t :: l, i, pl, h => by rw [pmL_cons, h t (by simp), pmL_none (i + 1) pl fun s hs => h s (List.mem_cons_of_mem _ hs)]; rfl
theorem pm_none {R : List RuT} {r : RuT} (hr : r ∈ R) (t : Tm) : fst1 (hitR R) t = none → ∀ pl, pm r.a t pl = [] := by
  induction t using Tm.ind with
  | h f l ih =>
    intro h pl
    rw [pm_eq]
    rw [fst1_eq] at h
    by_cases hf : (Tm.mk f l).f < 0
    · rw [if_pos hf]
    · rw [if_neg hf] at h ⊢
      by_cases hh : hitR R ⟨f, l⟩ = true
      · rw [if_pos hh] at h; cases h
      · rw [if_neg hh] at h
        have h2 := fstL_none.1 h
        have hm : ¬ (mt r.a ⟨f, l⟩ []).1 = true := fun hm => hh (List.any_eq_true.2 ⟨r, hr, hm⟩)
        rw [if_neg hm, List.nil_append]
        exact pmL_none 0 pl fun s hs pl => ih s hs (h2 _ (List.mem_map.2 ⟨s, hs, rfl⟩)) pl

theorem ints_fin (a : Int) : ∀ n : Nat, ∃ I : List Int, ∀ f : Int, a ≤ f → f < a + n → f ∈ I
  | 0 => ⟨[], fun f h1 h2 => by omega⟩
  | n + 1 => by
    obtain ⟨I, h⟩ := ints_fin a n
    exact ⟨(a + n) :: I, fun f h1 h2 => by
      by_cases e : f = a + n
      · rw [e]; exact List.mem_cons_self
      · exact List.mem_cons_of_mem _ (h f h1 (by omega))⟩
theorem lists_fin (S : List Tm) : ∀ n : Nat, ∃ L : List (List Tm), ∀ l : List Tm, l.length ≤ n → (∀ x ∈ l, x ∈ S) → l ∈ L
  | 0 => ⟨[[]], fun l h _ => by
    have : l = [] := List.eq_nil_of_length_eq_zero (by omega)
    rw [this]; exact List.mem_singleton.2 rfl⟩
  | n + 1 => by
    obtain ⟨L, h⟩ := lists_fin S n
    exact ⟨[] :: S.flatMap fun s => L.map (s :: ·), fun l h1 h2 => by
      cases l with
      | nil => exact List.mem_cons_self
      | cons x l =>
        refine List.mem_cons_of_mem _ (List.mem_flatMap.2 ⟨x, h2 x List.mem_cons_self, List.mem_map.2 ⟨l, h l (by simp at h1; omega) (fun y hy => h2 y (List.mem_cons_of_mem _ hy)), rfl⟩⟩)⟩
theorem size_kids {t s : Tm} (hf : ¬ t.f < 0) (hs : s ∈ t.l) : s.size + t.l.length ≤ t.size := by
  have hps : t.ps = t.l := Tm.ps_of_sym (by omega)
  rw [Tm.size_eq t, hps]
  generalize t.l = l at hs
  induction l with
  | nil => cases hs
  | cons x l ih =>
    have h1 : ∀ x : Tm, 1 ≤ x.flat.length := fun x => by have := Tm.size_eq x; unfold Tm.size at this; omega
    have hlen : ∀ l : List Tm, l.length ≤ (l.flatMap Tm.flat).length := fun l => by
      induction l with
      | nil => simp
      | cons y l ih => have := h1 y; rw [List.flatMap_cons, List.length_append, List.length_cons]; omega
    rw [List.flatMap_cons, List.length_append, List.length_cons]
    rcases List.mem_cons.1 hs with rfl | hs
    · have := hlen l; unfold Tm.size; omega
    · have := ih hs; have := h1 x; omega
theorem terms_fin : ∀ n : Nat, ∃ S : List Tm, ∀ t : Tm, t.strip = t → t.rng → t.size ≤ n → t ∈ S
  | 0 => ⟨[], fun t _ _ h => by have := Tm.size_eq t; omega⟩
  | n + 1 => by
    obtain ⟨S, h⟩ := terms_fin n
    obtain ⟨L, hL⟩ := lists_fin S n
    obtain ⟨I, hI⟩ := ints_fin (-9223372036854775808) 18446744073709551616
    refine ⟨I.flatMap fun f => L.map fun l => ⟨f, l⟩, fun t h1 h2 h3 => ?_⟩
    have hr := (Tm.rng_iff t).1 h2
    refine List.mem_flatMap.2 ⟨t.f, hI _ hr.1.1 (by have := hr.1.2; omega), List.mem_map.2 ⟨t.l, hL _ ?_ fun x hx => ?_, by cases t; rfl⟩⟩
    · rcases Nat.eq_zero_or_pos t.l.length with h0 | h0
      · omega
      · obtain ⟨s, hs⟩ : ∃ s, s ∈ t.l := ⟨t.l[0], List.getElem_mem h0⟩
        have := size_kids (sym_of_kid h1 hs) hs
        have := Tm.size_eq s
        omega
    · have := size_kids (sym_of_kid h1 hx) hx
      have : 0 < t.l.length := List.length_pos_of_mem hx
      exact h x (strip_kid h1 hx).1 (hr.2 x hx) (by omega)
noncomputable def lessN (S : List Tm) (x : Tm) : Nat := (S.filter fun y => decide (kb x y = 1)).length
theorem lessN_lt {S : List Tm} {x s : Tm} (h : kb x s = 1) (hs : s ∈ S) : lessN S s < lessN S x := by
  unfold lessN
  have e : (S.filter fun y => decide (kb s y = 1)) = (S.filter fun y => decide (kb x y = 1)).filter fun y => decide (kb s y = 1) := by
    rw [List.filter_filter]
    refine List.filter_congr fun y _ => ?_
    by_cases h2 : kb s y = 1
    · have := kb_trans x s y h h2; simp [h2, this]
    · simp [h2]
  rw [e, List.length_filter_lt_length_iff_exists]
  exact ⟨s, List.mem_filter.2 ⟨hs, by simpa using h⟩, by rw [kb_self]; simp⟩

end Go.Proofs.Ytekboofbedakcaa
namespace Go.Proofs.Ytekboofbedakcaa
set_option linter.unusedVariables false

end Go.Proofs.Ytekboofbedakcaa
namespace Go.Proofs.Ytekboofbedakcaa
open Go.RowKit
set_option linter.unusedVariables false
set_option linter.unusedSimpArgs false
set_option maxRecDepth 100000

end Go.Proofs.Ytekboofbedakcaa
namespace Go.Proofs.Ytekboofbedakcaa
set_option linter.unusedVariables false
set_option linter.unusedSimpArgs false
theorem small1_facts {t : Tm} {most deep : Int} (h0 : 0 ≤ most) (h1 : most ≤ 60) (h : 0 ≤ smallT t most deep) : t.sm ∧ t.rng ∧ t.ok ∧ (t.size : Int) ≤ most := by
  have hsm := small_sm t _ _ h
  have hwt : (t.wt : Int) ≤ most := by have := (small_bounds t most deep h0).2.2 h; omega
  have := t.size_wt
  exact ⟨hsm, Tm.sm_rng hsm, Tm.wt_ok (t := t) (by omega), by omega⟩
end Go.Proofs.Ytekboofbedakcaa
namespace Go.Proofs.Ytekboofbedakcaa
open Go.RowKit
set_option linter.unusedVariables false
set_option linter.unusedSimpArgs false
def catO : List (Option (List Value)) → Option (List Value)
  | [] => some []
  | none :: _ => none
  | some x :: r => match catO r with | some y => some (x ++ y) | none => none
def plS (k : Nat) (v : Value) (l : List CV) (r : Option (List Value)) : Option (List Value) := match k, v, l with
  | 0, v, [] => match plainV v, isNil v with | true, false => some [v] | _, _ => none
  | 1, .nilFunc, [] => some [.slice none 0 0]
  | 2, .nilFunc, _ => r
  | _, _, _ => none
def plC : Nat → CV → Option (List Value)
  | 0, _ => none
  | n + 1, ⟨k, v, l⟩ => plS k v l (catO (l.map (plC n)))
theorem catO_spec {U : Nat → Nat → Prop} {w : World} {n : Nat} (ih : ∀ c vs, plC n c = some vs → Rep U w c vs ∧ vs.length = c.size) : ∀ {zs : List CV} {vs : List Value}, catO (zs.map (plC n)) = some vs → ∃ segs : List (List Value), segs.flatten = vs ∧ segs.map List.length = zs.map CV.size ∧ zs.length = segs.length ∧ ∀ (i : Nat) (c : CV), zs[i]? = some c → ∃ seg, segs[i]? = some seg ∧ Rep U w c seg
  | [], vs, h => by
    simp [catO] at h
    subst h
    exact ⟨[], rfl, rfl, rfl, fun i c hi => by simp at hi⟩
  | z :: zs, vs, h => by
    rw [List.map_cons] at h
    cases hz : plC n z with
    | none => rw [hz] at h; simp [catO] at h
    | some x =>
      rw [hz] at h
      unfold catO at h
      split at h
      · rename_i y hy
        cases h
        obtain ⟨segs, a1, a2, a3, a4⟩ := catO_spec ih hy
        obtain ⟨b1, b2⟩ := ih z x hz
        refine ⟨x :: segs, by simp [a1], by simp [a2, b2], by simp [a3], fun i c hi => ?_⟩
        cases i with
        | zero => simp at hi; subst hi; exact ⟨x, rfl, b1⟩
        | succ i => obtain ⟨seg, c1, c2⟩ := a4 i c (by simpa using hi); exact ⟨seg, by simpa using c1, c2⟩
      · cases h
theorem plC_spec {U : Nat → Nat → Prop} {w : World} : ∀ (n : Nat) (c : CV) (vs : List Value), plC n c = some vs → Rep U w c vs ∧ vs.length = c.size
  | 0, c, vs, h => by cases h
  | n + 1, ⟨k, v, l⟩, vs, h => by
    rw [plC] at h
    unfold plS at h
    split at h
    · split at h
      · rename_i h1 h2
        cases h
        exact ⟨(rep_cell h1).2 h2, rfl⟩
      · cases h
    · cases h
      exact ⟨rep_nil U w, rfl⟩
    · obtain ⟨segs, a1, a2, a3, a4⟩ := catO_spec (fun c vs h => plC_spec (U := U) (w := w) n c vs h) h
      refine ⟨?_, ?_⟩
      · show Rep U w (.row l) vs
        rw [rep_row, ← a1]
        exact sq_of_segs a3 a4
      · rw [CV.size_mk, if_pos rfl, ← a1, List.length_flatten, a2]
    · cases h

section
variable {P : Program} {w0 : World} {U0 : UX} {nt : Nat} {ops : Array Oper} {o : Oper} {S : Nat → Option AV} {gs : List Nat} {d : Nat}
theorem a_buildT (zs : List CV) (hg : Gd w0 U0 nt ops o gs S) (hd : o.dst = some d) (hn : Nat.blt d nt = true) (h5 : Nat.blt d 100000 = true) {t : TypeId} {parts : Array (Nat × Operand)} {fs : Array Field} {it : TypeInfo} {cs : Array Value} {sz : List Nat} {r : List CV} (ho : o.op = .build t parts) (hu : P.underlying t = some (.struct fs)) (hi : P.info? t = some it) (hz : it.zero = some (.agg cs)) (hsz : szO P fs.toList 0 = some sz) (hzz : zs.map CV.size = sz) (h0 : catO (zs.map (plC 6)) = some cs.toList) (hr : setsO S parts.toList zs = some r) :
    AOp P w0 U0 nt ops o (gs ++ rds parts.toList) [] S [(d, .val (.row r))] :=
  aop_val hg hd hn h5 (fun k hk => List.mem_append_left _ hk) fun s hs a w D hv hm => by
    obtain ⟨segs, e1, e2, e4, e5⟩ := catO_spec (U := Us w0 U0 D) (w := w) (plC_spec 6) h0
    obtain ⟨g1, g2⟩ := setsO_spec (U := Us w0 U0 D) (w := w) (ρ := a.eval) (segs := segs) hr (fun x hx c n q p hev => ev_val hm (fun k hk => hs k (List.mem_append_right _ (mem_rds hx k hk))) hev) e4 e2 e5
    obtain ⟨pl, h1, h2⟩ := szO_spec hsz
    have hfill := fill_segs (place := fun i => pl.toArray[i]?) sz (fun i z hz => by rw [List.getElem?_toArray, h2 i z hz, Nat.zero_add]) (parts.toList.map fun x => (x.1, a.eval x.2)) segs cs e1.symm (by rw [e2, hzz]) (fun x hx => by rw [← hzz]; exact g1 x hx)
    refine ⟨.agg (setAll segs (parts.toList.map fun x => (x.1, a.eval x.2))).flatten.toArray, ?_, avrep_val (vrep_row.2 ⟨_, rfl, g2⟩)⟩
    have hb : P.built t (parts.map fun x => (x.1, a.eval x.2)).toList = some (setAll segs (parts.toList.map fun x => (x.1, a.eval x.2))).flatten.toArray := by
      unfold Program.built
      rw [hi, hu]
      simp only [hz, h1]
      rw [Array.toList_map]
      exact hfill
    have := run_build w t _ _ hb
    generalize a.eval = ρ at this ⊢
    simp [execOp, ho, this]
end
end Go.Proofs.Ytekboofbedakcaa
namespace Go.Proofs.Ytekboofbedakcaa
open Go.RowKit
set_option linter.unusedVariables false
set_option linter.unusedSimpArgs false
set_option maxRecDepth 100000
noncomputable abbrev ltZ17 : List CV := [.b false, .row [.i 0, .lst []], .row [.i 0, .lst []]]
abbrev lvX : Tm := ⟨-1, []⟩
abbrev lvA : Tm := ⟨1, []⟩
abbrev lvF (t : Tm) : Tm := ⟨3, [t]⟩
theorem lv_rng {t : Tm} (h : t.rng) : (lvF t).rng := (Tm.rng_iff _).2 ⟨⟨by show (-9223372036854775808 : Int) ≤ 3; decide, by show (3 : Int) ≤ _; decide⟩, fun s hs => by
  have : s = t := by simpa using hs
  rw [this]; exact h⟩
theorem lv_ok {t : Tm} (h : t.ok) : (lvF t).ok := (Tm.ok_iff _).2 ⟨by show 1 ≤ _; decide, fun s hs => by
  have : s = t := by simpa using hs
  rw [this]; exact h⟩
theorem lv_size (t : Tm) : (lvF t).size = 1 + t.size := by
  rw [Tm.size_sym (by show ¬ (3 : Int) < 0; decide)]
  simp only [List.map_cons, List.map_nil, List.sum_cons, List.sum_nil, Nat.add_zero]
theorem lv_strip {t : Tm} (h : t.strip = t) : (lvF t).strip = lvF t := by
  rw [stripSym (by show ¬ (3 : Int) < 0; decide)]
  show Tm.mk 3 [t.strip] = _
  rw [h]
theorem lv_vs : (lvF lvX).vs = [0] := by
  rw [Tm.vs_sym (t := lvF lvX) (by decide)]
  show [lvX].flatMap Tm.vs = _
  rw [List.flatMap_cons, Tm.vs_var (t := lvX) (by decide)]
  rfl
theorem lvX_strip : lvX.strip = lvX := by rw [Tm.strip_eq]; rfl
theorem lvA_strip : lvA.strip = lvA := by rw [Tm.strip_eq]; rfl
theorem lv_one : kb (lvF lvX) lvX = 1 := by
  refine kb_big (fun v => ?_) (by rw [lv_size]; omega)
  rw [Tm.vs_sym (t := lvF lvX) (by decide)]
  simp only [List.flatMap_cons, List.flatMap_nil, List.append_nil]
  omega
theorem lv_of : ofR 7 [⟨false, lvX, lvF lvX⟩] = some ⟨7, lvF lvX, lvX⟩ := by
  rw [ofR_one, if_neg (by rw [kb_anti lv_one]; decide), if_pos lv_one, lv_strip lvX_strip, lvX_strip]
theorem lv_mt : mt (lvF lvX) (lvF (lvF lvA)) [] = (true, [⟨0, lvF lvA⟩]) := by
  rw [mt_sym (p := lvF lvX) (t := lvF (lvF lvA)) [] (by decide) rfl rfl]
  show mts [lvX] [lvF lvA] [] = _
  rw [mts_cons, mt_var _ _ (by decide)]
  rfl
theorem lv_trm : trm [⟨7, lvF lvX, lvX⟩] (lvF (lvF lvA)) = some (lvF lvA, 7) := by
  have hh : hitR [⟨7, lvF lvX, lvX⟩] (lvF (lvF lvA)) = true := by unfold hitR; simp [lv_mt]
  have h1 : fst1 (hitR [⟨7, lvF lvX, lvX⟩]) (lvF (lvF lvA)) = some [] := by rw [fst1_eq, if_neg (by decide), if_pos hh]
  have h2 : atN (lvF (lvF lvA)) [] = some (lvF (lvF lvA)) := by unfold atN; rfl
  rw [trm_some h1 h2 (r := ⟨7, lvF lvX, lvX⟩) (by simp [lv_mt]), puN_nil]
  have h3 : usR ⟨7, lvF lvX, lvX⟩ (lvF (lvF lvA)) = lvF lvA := by
    unfold usR
    show repT (imgB (mt (lvF lvX) (lvF (lvF lvA)) []).2) lvX = _
    rw [lv_mt, repT_var (by decide)]
    show (lvF lvA).strip = _
    exact lv_strip lvA_strip
  rw [h3]
-- 
theorem lvF_abs (W : World) (t : CV) (f : Int) (l : List CV) (ht : t = .row [.i f, .lst l]) : AFun Try.prog W 28 [t] (.val (.row [.i 3, .lst [t]])) := by
  subst ht
  refine afun_of (rs := [.row [.i 3, .lst [.row [.i f, .lst l]]]]) Try.func28 Try.ntmps28 rfl rfl rfl rfl ?_
  intro w U hW
  refine aS (aR ?_)
  (refine nx (a_box (gN rfl) rfl rfl rfl rfl rfl) rfl ?_)
  (refine nx (a_alloc (gN rfl) rfl rfl rfl rfl rfl rfl rfl rfl rfl rfl) rfl ?_)
  show AWp _ _ _ _ _ _ _
  refine aS (aR ?_)
  (refine nx (aL (gN rfl) rfl rfl rfl rfl rfl rfl rfl rfl rfl rfl rfl rfl) rfl ?_)
  (refine nx (a_bslice (gN rfl) rfl rfl rfl rfl rfl rfl rfl rfl rfl rfl rfl rfl rfl) rfl ?_)
  (refine nx (a_build (gN rfl) rfl rfl rfl rfl rfl rfl rfl rfl rfl rfl rfl) rfl ?_)
  (refine nx (aSt (gN rfl) rfl rfl rfl rfl rfl rfl rfl rfl rfl rfl) rfl ?_)
  show AWp _ _ _ _ _ _ _
  exact aT (And.intro (.inr rfl) rfl)
-- 
theorem alive17_abs (W : World) : AFun Try.prog W 6 [] (.val (.b true)) := by
  refine afun_of (rs := [.b true]) Try.func6 Try.ntmps6 rfl rfl rfl rfl ?_
  intro w U hW
  have hA : lvA.rng ∧ lvA.ok ∧ lvA.size = 1 := ⟨leaf_rng (by decide) (by decide), leaf_ok _, leaf_size _⟩
  have hX : lvX.rng ∧ lvX.ok ∧ lvX.size = 1 := ⟨leaf_rng (by decide) (by decide), leaf_ok _, leaf_size _⟩
  have k1 : ∀ w, AFunW Try.prog w (.sc (.func (.func 28) #[] #[])) [.row [.i (-1), .lst []]] (.val (.row [.i 3, .lst [.row [.i (-1), .lst []]]])) := fun w => .inr ⟨_, rfl, lvF_abs w _ _ _ rfl⟩
  have k2 : ∀ w, AFunW Try.prog w (.sc (.func (.func 28) #[] #[])) [.row [.i 1, .lst []]] (.val (.row [.i 3, .lst [.row [.i 1, .lst []]]])) := fun w => .inr ⟨_, rfl, lvF_abs w _ _ _ rfl⟩
  have k3 : ∀ w, AFunW Try.prog w (.sc (.func (.func 28) #[] #[])) [.row [.i 3, .lst [.row [.i 1, .lst []]]]] (.val (.row [.i 3, .lst [.row [.i 3, .lst [.row [.i 1, .lst []]]]]])) := fun w => .inr ⟨_, rfl, lvF_abs w _ _ _ rfl⟩
  have hO := wOf_abs w 7 [⟨false, lvX, lvF lvX⟩] (fun l hl => by
    have : l = ⟨false, lvX, lvF lvX⟩ := by simpa using hl
    subst this
    exact ⟨⟨hX.1, hX.2.1, by show lvX.size ≤ _; omega⟩, lv_rng hX.1, lv_ok hX.2.1, by show (lvF lvX).size ≤ _; rw [lv_size]; omega⟩)
  rw [lv_of] at hO
  have hT := wTerm_abs w [⟨7, lvF lvX, lvX⟩] (fun r hr => by
    have : r = ⟨7, lvF lvX, lvX⟩ := by simpa using hr
    subst this
    exact ⟨lv_rng hX.1, lv_ok hX.2.1, by rw [lv_vs]; decide, by show (lvF lvX).size ≤ _; rw [lv_size]; omega, hX.1, hX.2.1, by show lvX.size ≤ _; omega, by rw [lv_vs]; rw [Tm.vs_var (t := lvX) (by decide)]; decide, lv_one⟩) (by decide) (lvF (lvF lvA)) (lv_rng (lv_rng hA.1)) (by rw [lv_size, lv_size]; omega)
  rw [lv_strip (lv_strip lvA_strip), lv_trm] at hT
  have hS := same_abs w (lv_rng hA.1) (lv_rng hA.1)
  rw [(sameT_iff _ _).2 rfl] at hS
  have eF : ∀ t : Tm, (lvF t).cw = .row [.i 3, .lst [t.cw]] := fun t => by show CV.row [.i 3, .lst ([t].map Tm.cv)] = _; simp [Tm.cv_eq]
  have eX : lvX.cw = .row [.i (-1), .lst []] := rfl
  have eA : lvA.cw = .row [.i 1, .lst []] := rfl
  have eL : ([⟨false, lvX, lvF lvX⟩] : List Lt).map Lt.cv = [.row [.b false, .row [.i (-1), .lst []], .row [.i 3, .lst [.row [.i (-1), .lst []]]]]] := by simp [Lt.cv, Tm.cv_eq]
  have eR : ([⟨7, lvF lvX, lvX⟩] : List RuT).map RuT.cv = [.row [.i 7, .row [.i 3, .lst [.row [.i (-1), .lst []]]], .row [.i (-1), .lst []]]] := by simp [RuT.cv, Tm.cv_eq]
  rw [eL] at hO
  have hO : AFun Try.prog w 29 [.i 7, .lst [.row [.b false, .row [.i (-1), .lst []], .row [.i 3, .lst [.row [.i (-1), .lst []]]]]]] (.tup [.row [.i 7, .row [.i 3, .lst [.row [.i (-1), .lst []]]], .row [.i (-1), .lst []]], .b true]) := by
    have e : ruE (some ⟨7, lvF lvX, lvX⟩) = .tup [.row [.i 7, (lvF lvX).cw, lvX.cw], .b true] := rfl
    rw [e, eF, eX] at hO
    exact hO
  have hT : AFun Try.prog w 11 [.lst ([⟨7, lvF lvX, lvX⟩].map RuT.cv), (lvF (lvF lvA)).cw] (.tup [(lvF lvA).cw, .i 7, .b true]) := hT
  rw [eR, eF (lvF lvA), eF lvA, eA] at hT
  rw [eF, eA] at hS
  refine aS (aR ?_)
  (refine nx (aA (gN rfl) rfl rfl rfl rfl rfl) rfl ?_)
  show AWp _ _ _ _ _ _ _
  refine aS (aR ?_)
  (refine nx (aA (gN rfl) rfl rfl rfl rfl rfl) rfl ?_)
  show AWp _ _ _ _ _ _ _
  refine aS (aR ?_)
  (refine nx (a_buildT [.i 0, .lst []] (gN rfl) rfl rfl rfl rfl rfl rfl rfl rfl rfl rfl rfl) rfl ?_)
  (refine nx (aM (gN rfl) rfl rfl rfl rfl rfl) rfl ?_)
  (refine nx (a_buildT [.i 0, .lst []] (gN rfl) rfl rfl rfl rfl rfl rfl rfl rfl rfl rfl rfl) rfl ?_)
  (refine nx (a_callw (gN rfl) rfl rfl rfl rfl rfl rfl (k1 w)) rfl ?_)
  (refine nx (a_buildT ltZ17 (gN rfl) rfl rfl rfl rfl rfl rfl rfl rfl rfl rfl rfl) rfl ?_)
  (refine nx (a_bslice (gN rfl) rfl rfl rfl rfl rfl rfl rfl rfl rfl rfl rfl rfl rfl) rfl ?_)
  (refine nx (a_call (gN rfl) rfl rfl rfl rfl rfl (hO)) rfl ?_)
  (refine nx (aM (gN rfl) rfl rfl rfl rfl rfl) rfl ?_)
  (refine nx (aX (gN rfl) rfl rfl rfl rfl rfl rfl) rfl ?_)
  (refine nx (aX (gN rfl) rfl rfl rfl rfl rfl rfl) rfl ?_)
  (refine nx (a_alloc (gN rfl) rfl rfl rfl rfl rfl rfl rfl rfl rfl rfl) rfl ?_)
  (refine nx (aSt (gN rfl) rfl rfl rfl rfl rfl rfl rfl rfl rfl rfl) rfl ?_)
  (refine nx (aA (gN rfl) rfl rfl rfl rfl rfl) rfl ?_)
  show AWp _ _ _ _ _ _ _
  refine aS (aD (by kernel_rfl) (by kernel_rfl) ?_)
  (refine nx (aL (gN rfl) rfl rfl rfl rfl rfl rfl rfl rfl rfl rfl rfl rfl) rfl ?_)
  (refine nx (a_bslice (gN rfl) rfl rfl rfl rfl rfl rfl rfl rfl rfl rfl rfl rfl rfl) rfl ?_)
  (refine nx (aM (gN rfl) rfl rfl rfl rfl rfl) rfl ?_)
  (refine nx (aM (gN rfl) rfl rfl rfl rfl rfl) rfl ?_)
  (refine nx (a_buildT [.i 0, .lst []] (gN rfl) rfl rfl rfl rfl rfl rfl rfl rfl rfl rfl rfl) rfl ?_)
  (refine nx (a_callw (gN rfl) rfl rfl rfl rfl rfl rfl (k2 w)) rfl ?_)
  (refine nx (a_callw (gN rfl) rfl rfl rfl rfl rfl rfl (k3 w)) rfl ?_)
  (refine nx (a_call (gN rfl) rfl rfl rfl rfl rfl (hT)) rfl ?_)
  (refine nx (aM (gN rfl) rfl rfl rfl rfl rfl) rfl ?_)
  (refine nx (aX (gN rfl) rfl rfl rfl rfl rfl rfl) rfl ?_)
  (refine nx (aX (gN rfl) rfl rfl rfl rfl rfl rfl) rfl ?_)
  (refine nx (aX (gN rfl) rfl rfl rfl rfl rfl rfl) rfl ?_)
  (refine nx (a_alloc (gN rfl) rfl rfl rfl rfl rfl rfl rfl rfl rfl rfl) rfl ?_)
  (refine nx (aSt (gN rfl) rfl rfl rfl rfl rfl rfl rfl rfl rfl rfl) rfl ?_)
  (refine nx (aA (gN rfl) rfl rfl rfl rfl rfl) rfl ?_)
  (refine nx (aA (gN rfl) rfl rfl rfl rfl rfl) rfl ?_)
  refine ⟨by kernel_rfl, ?_⟩
  show AWp _ _ _ _ _ _ _
  refine aS (aD (by kernel_rfl) (by kernel_rfl) ?_)
  (refine nx (aM (gN rfl) rfl rfl rfl rfl rfl) rfl ?_)
  (refine nx (aM (gN rfl) rfl rfl rfl rfl rfl) rfl ?_)
  (refine nx (aM (gd_on rfl rfl rfl rfl (by first | rfl | assumption | (simp; done))) rfl rfl rfl rfl rfl) rfl ?_)
  (refine ⟨_, _, _, aPt (gN rfl) rfl rfl rfl rfl rfl ?hb rfl, rfl, ?_⟩; case hb => (first | rfl | assumption | (simp; done)))
  (refine nx (aM (gN rfl) rfl rfl rfl rfl rfl) rfl ?_)
  (refine nx (aM (gd_on rfl rfl rfl rfl (by first | rfl | assumption | (simp; done))) rfl rfl rfl rfl rfl) rfl ?_)
  (refine nx (a_eql (gd_on rfl rfl rfl rfl (by first | rfl | assumption | (simp; done))) rfl rfl rfl rfl rfl rfl) rfl ?_)
  (refine ⟨_, _, _, aPt (gN rfl) rfl rfl rfl rfl rfl ?hb rfl, rfl, ?_⟩; case hb => (first | rfl | assumption | (simp; done)))
  (refine nx (aM (gN rfl) rfl rfl rfl rfl rfl) rfl ?_)
  (refine nx (aL (gd_on rfl rfl rfl rfl (by first | rfl | assumption | (simp; done))) rfl rfl rfl rfl rfl rfl rfl rfl rfl rfl rfl rfl) rfl ?_)
  (refine nx (aM (gd_on rfl rfl rfl rfl (by first | rfl | assumption | (simp; done))) rfl rfl rfl rfl rfl) rfl ?_)
  (refine nx (a_buildT [.i 0, .lst []] (gd_on rfl rfl rfl rfl (by first | rfl | assumption | (simp; done))) rfl rfl rfl rfl rfl rfl rfl rfl rfl rfl rfl) rfl ?_)
  (refine nx (a_callw (gd_on rfl rfl rfl rfl (by first | rfl | assumption | (simp; done))) rfl rfl rfl rfl rfl rfl (k2 w)) rfl ?_)
  (refine nx (a_call (gd_on rfl rfl rfl rfl (by first | rfl | assumption | (simp; done))) rfl rfl rfl rfl rfl (hS)) rfl ?_)
  (refine ⟨_, _, _, aPt (gN rfl) rfl rfl rfl rfl rfl ?hb rfl, rfl, ?_⟩; case hb => (first | rfl | assumption | (simp; done)))
  (refine nx (aA (gN rfl) rfl rfl rfl rfl rfl) rfl ?_)
  refine ⟨by kernel_rfl, ?_⟩
  show AWp _ _ _ _ _ _ _
  exact aT (And.intro (.inr rfl) rfl)
-- 
set_option maxHeartbeats 1000000 in
theorem wClone_abs (W : World) (c : List Lt) (hl : c.length ≤ 1000000) (hc : ∀ l ∈ c, l.a.rng ∧ l.a.size ≤ 90000000000 ∧ l.b.rng ∧ l.b.size ≤ 90000000000) : AFun Try.prog W 38 [.lst (c.map Lt.cv)] (.val (.lst ((c.map Lt.strip).map Lt.cv))) := by
  have hsz := Lt.size_all c
  refine afun_of (rs := [.lst ((c.map Lt.strip).map Lt.cv)]) Try.func38 Try.ntmps38 rfl rfl rfl rfl ?_
  intro w U hW
  refine aS (aR ?_)
  (refine nx (aA (gN rfl) rfl rfl rfl rfl rfl) rfl ?_)
  show AWp _ _ _ _ _ _ _
  refine aS (aR ?_)
  (refine nx (aA (gN rfl) rfl rfl rfl rfl rfl) rfl ?_)
  show AWp _ _ _ _ _ _ _
  refine aS (aS (aR ?_))
  (refine nx (aM (gN rfl) rfl rfl rfl rfl rfl) rfl ?_)
  (refine nx (a_len (gN rfl) rfl rfl rfl rfl rfl rfl rfl) rfl ?_)
  (refine nx (aM (gN rfl) rfl rfl rfl rfl rfl) rfl ?_)
  show AWp _ _ _ _ _ _ _
  refine aB (awp_count c.length (fun k => [(3, .own (.lst (((c.take k).map Lt.strip).map Lt.cv)) 200023), (200023, .tok 66 5), (6, .val (.lst (c.map Lt.cv))), (7, .val (.i (c.map Lt.cv).length)), (8, .val (.i k))]) ((wk_nil 3 200023 66 5 rfl rfl rfl rfl rfl rfl rfl).trans (wk_sub ⟨rfl, rfl, rfl, rfl, rfl, trivial⟩)) ?_)
  intro k hk
  have hks := Lt.size_all ((c.take k).map Lt.strip)
  refine aS (aR ?_)
  (refine nx (a_lss (gN rfl) rfl rfl rfl rfl rfl rfl) rfl ?_)
  show AWp _ _ _ _ _ _ _
  refine aS (aC rfl (fun hlt => aK ?_) (fun hlt => aE ?_))
  · have hkl : k < c.length := by simpa using hlt
    obtain ⟨x, hx⟩ : ∃ x, c[k]? = some x := ⟨c[k], List.getElem?_eq_getElem hkl⟩
    have hx' := Lt.map_at hx
    obtain ⟨h1, h2, h3, h4⟩ := hc x (List.mem_of_getElem? hx)
    have hkn : (((c.take k).map Lt.strip).map Lt.cv).length ≤ 1000000 := by rw [List.length_map, List.length_map, List.length_take]; omega
    clear hlt
    show AWp _ _ _ _ _ _ _
    refine aS (aB (aS (aR ?_)))
    (refine nx (a_index (j := k) (gN rfl) rfl rfl rfl rfl rfl rfl rfl rfl rfl (hx') rfl (hsz)) rfl ?_)
    (refine nx (a_load_ad (gN rfl) rfl rfl rfl rfl rfl rfl rfl rfl rfl) rfl ?_)
    (refine nx (a_alloc (gN rfl) rfl rfl rfl rfl rfl rfl rfl rfl rfl rfl) rfl ?_)
    (refine nx (aSt (gN rfl) rfl rfl rfl rfl rfl rfl rfl rfl rfl rfl) rfl ?_)
    show AWp _ _ _ _ _ _ _
    refine aD (by kernel_rfl) (by kernel_rfl) ?_
    (refine nx (aM (gN rfl) rfl rfl rfl rfl rfl) rfl ?_)
    (refine nx (aF (gN rfl) rfl rfl rfl rfl rfl rfl rfl rfl rfl) rfl ?_)
    (refine nx (aLb (gN rfl) rfl rfl rfl rfl rfl rfl rfl rfl rfl rfl rfl rfl) rfl ?_)
    (refine nx (aF (gN rfl) rfl rfl rfl rfl rfl rfl rfl rfl rfl) rfl ?_)
    (refine nx (aLb (gN rfl) rfl rfl rfl rfl rfl rfl rfl rfl rfl rfl rfl rfl) rfl ?_)
    (refine nx (a_call (gN rfl) rfl rfl rfl rfl rfl (clone_abs w h1 h2)) rfl ?_)
    (refine nx (aF (gN rfl) rfl rfl rfl rfl rfl rfl rfl rfl rfl) rfl ?_)
    (refine nx (aLb (gN rfl) rfl rfl rfl rfl rfl rfl rfl rfl rfl rfl rfl rfl) rfl ?_)
    (refine nx (a_call (gN rfl) rfl rfl rfl rfl rfl (clone_abs w h3 h4)) rfl ?_)
    (refine nx (a_build (gN rfl) rfl rfl rfl rfl rfl rfl rfl rfl rfl rfl rfl) rfl ?_)
    (refine nx (a_bslice (gN rfl) rfl rfl rfl rfl rfl rfl rfl rfl rfl rfl rfl rfl rfl) rfl ?_)
    (refine nx (a_app (gN rfl) rfl rfl rfl rfl rfl rfl rfl rfl rfl rfl rfl rfl rfl rfl rfl (by first | assumption | exact sZ rfl | exact Tm.size_all _ | exact Bd.size_all _ | exact ints_size _ | exact bys_size _ | exact Lt.size_all _) (by first | assumption | exact sZ rfl | exact Tm.size_all _ | exact Bd.size_all _ | exact ints_size _ | exact bys_size _ | exact Lt.size_all _) (by first | omega | (simp only [List.length_map, List.length_append, List.length_cons, List.length_nil] <;> omega) | (simp <;> omega))) rfl ?_)
    (refine nx (aA (gN rfl) rfl rfl rfl rfl rfl) rfl ?_)
    refine ⟨by kernel_rfl, ?_⟩
    show AWp _ _ _ _ _ _ _
    refine aR ?_
    (refine nx (a_add (gN rfl) rfl rfl rfl rfl rfl rfl (by first | omega | (simp only [List.length_map, List.length_append, List.length_cons, List.length_nil] <;> omega) | (simp <;> omega))) rfl ?_)
    (refine nx (aM (gN rfl) rfl rfl rfl rfl rfl) rfl ?_)
    refine ⟨hkl, Wk.trans (wk_sub (s' := [(3, .own (.lst (((c.take (k + 1)).map Lt.strip).map Lt.cv)) 300023), (300023, .tok 66 5), (6, .val (.lst (c.map Lt.cv))), (7, .val (.i (c.map Lt.cv).length)), (8, .val (.i ((k + 1 : Nat) : Int)))]) ⟨?_, rfl, rfl, rfl, rfl, trivial⟩) (wk_ren 300023 200023 rfl rfl rfl rfl)⟩
    rw [List.take_add_one, hx, List.map_append, List.map_append]
    rfl
  · have hkl : k = c.length := by
      have : ¬ k < c.length := by simpa using hlt
      omega
    subst hkl
    rw [List.take_length]
    show AWp _ _ _ _ _ _ _
    refine aS (aR ?_)
    (refine nx (aM (gN rfl) rfl rfl rfl rfl rfl) rfl ?_)
    (refine nx (aA (gN rfl) rfl rfl rfl rfl rfl) rfl ?_)
    show AWp _ _ _ _ _ _ _
    exact aT (And.intro (.inr rfl) rfl)
-- 
theorem wSides_abs (W : World) (v : Value) (hv : v.oneCell' = true) : AFun Try.prog W 39 [.sc v] (.val (.fn 54 0 [.ptr (.sc v)])) := by
  refine afun_of (rs := [.fn 54 0 [.ptr (.sc v)]]) Try.func39 Try.ntmps39 rfl rfl rfl rfl ?_
  intro w U hW
  refine aS (aR ?_)
  (refine nx (a_box (gN rfl) rfl rfl rfl rfl rfl) rfl ?_)
  (refine nx (aA (gN rfl) rfl rfl rfl rfl rfl) rfl ?_)
  show AWp _ _ _ _ _ _ _
  refine AWp.wk (wk_freeze 1 rfl rfl rfl (s' := []) trivial rfl rfl rfl) ?_
  refine aS (aR ?_)
  (refine nx (a_mkfunc (gN rfl) rfl rfl rfl rfl rfl rfl) rfl ?_)
  (refine nx (aA (gN rfl) rfl rfl rfl rfl rfl) rfl ?_)
  show AWp _ _ _ _ _ _ _
  exact aT ⟨.inr rfl, rfl⟩
def SQ (P : Program) (l g off n : Nat) (U : Nat → Nat → Prop) (w : World) : Prop := ∀ i, i < n → YT P w l [ptrV g (off + i * 5 + 1)] ∧ YT P w l [ptrV g (off + i * 5 + 3)]
-- 
theorem sidesT_q (l g off n cap : Nat) (ao : Option Addr) (ha : 0 < n → ao = some ⟨g, off, none⟩) (hn : n ≤ 1000000) : AFunQ Try.prog (SQ Try.prog l g off n) 54 [yldV l, .ptr (.sc (.slice ao n cap))] (resAV []) := by
  refine afunQ_of (rs := []) Try.func54 Try.ntmps54 rfl rfl rfl rfl ?_
  intro w U hW hq
  refine aS (aR ?_)
  (refine nx (a_load_ptr (gN rfl) rfl rfl rfl rfl rfl rfl rfl rfl rfl) rfl ?_)
  (refine nx (a_lenZ (gN rfl) rfl rfl rfl rfl rfl rfl) rfl ?_)
  (refine nx (aM (gN rfl) rfl rfl rfl rfl rfl) rfl ?_)
  show AWp _ _ _ _ _ _ _
  refine aB (awp_count n (fun k => [(0, .val (yldV l)), (1, .val (.ptr (.sc (.slice ao n cap)))), (5, .val (.i n)), (6, .val (.i k))]) (wk_sub ⟨rfl, rfl, rfl, rfl, trivial⟩) ?_)
  intro k hk
  refine aS (aR ?_)
  (refine nx (a_lss (gN rfl) rfl rfl rfl rfl rfl rfl) rfl ?_)
  show AWp _ _ _ _ _ _ _
  refine aS (aC rfl (fun hlt => aK ?_) (fun hlt => aE ?_))
  · have hkl : k < n := by simpa using hlt
    obtain ⟨hA, hB⟩ := hq k hkl
    have ha2 := ha (by omega)
    show AWp _ _ _ _ _ _ _
    refine aS (aB (aS (aR ?_)))
    (refine nx (aM (gN rfl) rfl rfl rfl rfl rfl) rfl ?_)
    (refine nx (aA (gN rfl) rfl rfl rfl rfl rfl) rfl ?_)
    show AWp _ _ _ _ _ _ _
    refine aS (awp_regionY ?_)
    (refine nxY (AOp.y (aM (gN rfl) rfl rfl rfl rfl rfl)) rfl ?_)
    (refine nxY (AOp.y (a_load_ptr (gN rfl) rfl rfl rfl rfl rfl rfl rfl rfl rfl)) rfl ?_)
    (refine nxY (AOp.y (aM (gN rfl) rfl rfl rfl rfl rfl)) rfl ?_)
    (refine nxY (AOp.y (a_indexZ (k) (gN rfl) rfl rfl rfl rfl rfl rfl rfl rfl (ha2) (by first | rfl | omega | (simp only [List.length_set, List.length_map, List.length_append, List.length_cons, List.length_nil] <;> omega) | (simp <;> omega)) (by first | rfl | omega | (simp only [List.length_set, List.length_map, List.length_append, List.length_cons, List.length_nil] <;> omega) | (simp <;> omega)))) rfl ?_)
    (refine nxY (AOp.y (a_fieldZ (gN rfl) rfl rfl rfl rfl rfl rfl rfl rfl rfl)) rfl ?_)
    (refine nxY (a_yieldT hW (hA) (gN rfl) rfl rfl rfl rfl rfl rfl) rfl ?_)
    (refine nxY (AOp.y (a_not (gN rfl) rfl rfl rfl rfl rfl)) rfl ?_)
    (refine nxY (AOp.y (aM (gN rfl) rfl rfl rfl rfl rfl)) rfl ?_)
    (refine nxY (AOp.y (aM (gd_on rfl rfl rfl rfl (by first | rfl | assumption | (simp; done))) rfl rfl rfl rfl rfl)) rfl ?_)
    (refine nxY (AOp.y (a_load_ptr (gd_on rfl rfl rfl rfl (by first | rfl | assumption | (simp; done))) rfl rfl rfl rfl rfl rfl rfl rfl rfl)) rfl ?_)
    (refine nxY (AOp.y (aM (gd_on rfl rfl rfl rfl (by first | rfl | assumption | (simp; done))) rfl rfl rfl rfl rfl)) rfl ?_)
    (refine nxY (AOp.y (a_indexZ (k) (gd_on rfl rfl rfl rfl (by first | rfl | assumption | (simp; done))) rfl rfl rfl rfl rfl rfl rfl rfl (ha2) (by first | rfl | omega | (simp only [List.length_set, List.length_map, List.length_append, List.length_cons, List.length_nil] <;> omega) | (simp <;> omega)) (by first | rfl | omega | (simp only [List.length_set, List.length_map, List.length_append, List.length_cons, List.length_nil] <;> omega) | (simp <;> omega)))) rfl ?_)
    (refine nxY (AOp.y (a_fieldZ (gd_on rfl rfl rfl rfl (by first | rfl | assumption | (simp; done))) rfl rfl rfl rfl rfl rfl rfl rfl rfl)) rfl ?_)
    (refine nxY (a_yieldT hW (hB) (gd_on rfl rfl rfl rfl (by first | rfl | assumption | (simp; done))) rfl rfl rfl rfl rfl rfl) rfl ?_)
    (refine nxY (AOp.y (a_not (gd_on rfl rfl rfl rfl (by first | rfl | assumption | (simp; done))) rfl rfl rfl rfl rfl)) rfl ?_)
    (refine ⟨_, _, _, AOp.y (aPf (gN rfl) rfl rfl rfl rfl rfl ?hb rfl), rfl, ?_⟩; case hb => (first | rfl | assumption | (simp; done)))
    show AWp _ _ _ _ _ _ _
    refine aC rfl (fun hc => by cases hc) (fun _ => aK ?_)
    show AWp _ _ _ _ _ _ _
    refine aR ?_
    (refine nx (a_add (gN rfl) rfl rfl rfl rfl rfl rfl (by first | omega | (simp only [List.length_map, List.length_append, List.length_cons, List.length_nil] <;> omega) | (simp <;> omega))) rfl ?_)
    (refine nx (aM (gN rfl) rfl rfl rfl rfl rfl) rfl ?_)
    exact ⟨hkl, wk_sub ⟨rfl, rfl, rfl, rfl, trivial⟩⟩
  · exact ⟨.inl rfl, rfl⟩
theorem firstT_q (R : List RuT) (hR : ∀ r ∈ R, RuOk r) (hRl : R.length ≤ 1000000) (x : XT) (b off : Nat) (hsz : ∀ p b' o' y, x.adr b off p = some (b', o', y) → 0 ≤ y.f → y.tm.rng ∧ y.tm.size ≤ 90000000000) (hn : fst1 (hitR R) x.tm = none) : AFunQ Try.prog (fun U w => XAt U w b off x) 32 [useV b off R] (.tup [.i 0, .b false]) := by
  refine ⟨ent_of Try.func32 rfl rfl, .inr rfl, rfl, ?_⟩
  rintro U w vs hx ⟨u, us, rfl, h1, h2⟩
  have h2 : us = [] := h2
  subst h2
  refine (first_any R hR hRl x b off (fst1 (hitR R) x.tm).isNone U w hx hsz rfl (fun p hp => by rw [hn] at hp; cases hp) u h1).mono ?_
  rintro e V ⟨k1, _⟩
  obtain ⟨rfl, hb⟩ := k1 (by rw [hn]; rfl)
  exact ⟨_, rfl, ⟨[_, _], rfl, _, _, rfl, vrep_sc.2 ⟨rfl, rfl⟩, _, _, rfl, vrep_sc.2 ⟨rfl, rfl⟩, rfl⟩, hb⟩
section
variable {P : Program} {w0 : World} {U0 : UX} {nt : Nat} {s : AS}
variable {ops : Array Oper} {o : Oper} {S : Nat → Option AV} {gs : List Nat} {d : Nat}
theorem a_alloc1V (hg : Gd w0 U0 nt ops o gs S) (hd : o.dst = some d) (hn : Nat.blt d nt = true) (h5 : Nat.blt d 100000 = true) {ty : TypeId} {v : Value} {c : CV} (ho : o.op = .alloc ty) (hi : (P.info? ty).map (·.zero) = some (some v)) (hc : (v = .slice none 0 0 ∧ c = .lst []) ∨ (v.oneCell' = true ∧ c = .sc v)) : AOp P w0 U0 nt ops o gs [(d, [])] S [(d, .bp d 0 []), (100000 + d, .bx c)] := by
  intro s hs hN a w ⟨D, hv, h⟩ Q K hK
  rw [if_pos (hg s hs a w D hv h)]
  obtain ⟨it, hi1, hi2⟩ : ∃ it, P.info? ty = some it ∧ it.zero = some v := by
    cases e : P.info? ty with
    | none => rw [e] at hi; cases hi
    | some it => rw [e] at hi; exact ⟨it, rfl, by simpa using hi⟩
  have hrep : Rep (Us w0 U0 D) w c [v] ∧ v.cells = #[v] := by
    rcases hc with ⟨rfl, rfl⟩ | ⟨h1, rfl⟩
    · exact ⟨rep_lst.2 ⟨none, 0, 0, rfl, rfl, by omega, (by unfold maxLen; omega), (fun _ => ⟨rfl, rfl⟩), [], .inl rfl, rfl⟩, rfl⟩
    · exact ⟨rep_sc.2 ⟨rfl, h1⟩, by cases v <;> first | rfl | simp [Value.oneCell'] at h1⟩
  have he : (execOp a.eval o).run P w = .ok (.value (.pointer (some ⟨w.heap.size, 0, none⟩))) (w.alloc (.cells #[v] ty)) := by
    simp [execOp, ho, Instr.alloc, zeroValue, typeInfo, hi1, hi2, run_newVar, hrep.2]
  unfold Oper.wp
  rw [he, Oper.upon_value, hd]
  exact hK _ _ ⟨_, _, h.newbox (d := d) (av := .bx c) (xs := [v]) (hN (d, []) (by simp)).nr (bL hn) (bL h5) (.inl rfl) ty (fun _ => hrep.1) (fun _ hl => absurd hl not_live0)⟩
end
end Go.Proofs.Ytekboofbedakcaa
