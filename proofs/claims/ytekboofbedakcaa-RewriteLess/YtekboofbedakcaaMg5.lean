/-
  MtFns4 TmPlA TmPlB TmPlC TmPlD KbMath KbSc KbFns KbFns2 KbMath2 KbFns3 KbFns4 SbNorm SbNorm2 SbSortM SbLaw3 SbThen MtMath2 RwAt RwUses
-/
import Derived.Test.YtekboofbedakcaaMg4
import Derived.Test.YtekboofbedakcaaMg2
import Derived.Test.YtekboofbedakcaaMg3
namespace Go.Proofs.Ytekboofbedakcaa
open Go.RowKit
set_option linter.unusedVariables false
set_option linter.unusedSimpArgs false
set_option maxRecDepth 100000
def clB (b : Bd) : Bd := ⟨b.v, b.t.strip⟩
noncomputable def zB : CV := .row [.i 0, .row [.i 0, .lst []]]
noncomputable def tlL (L : List Bd) (k : Nat) : List CV := ((L.take k).map clB).map Bd.cv ++ List.replicate (L.length - k) zB
theorem tlL_len (L : List Bd) {k : Nat} (h : k ≤ L.length) : (tlL L k).length = L.length := by
  unfold tlL
  simp
  omega
theorem tlL_zero (L : List Bd) : tlL L 0 = List.replicate L.length zB := by simp [tlL]
theorem tlL_end (L : List Bd) : tlL L L.length = (L.map clB).map Bd.cv := by simp [tlL]
theorem tlL_at {L : List Bd} {k : Nat} (h : k < L.length) : (tlL L k)[k]? = some zB := by
  unfold tlL
  rw [List.getElem?_append_right (by simp; omega)]
  rw [List.getElem?_replicate, if_pos]
  simp
  omega
theorem tlL_set {L : List Bd} {k : Nat} {b : Bd} (h : L[k]? = some b) : (tlL L k).set k (clB b).cv = tlL L (k + 1) := by
  have hk : k < L.length := by
    rcases Nat.lt_or_ge k L.length with h1 | h1
    · exact h1
    · rw [List.getElem?_eq_none h1] at h; cases h
  unfold tlL
  rw [List.set_append_right _ _ (by simp; omega)]
  have h1 : k - (((L.take k).map clB).map Bd.cv).length = 0 := by simp; omega
  rw [h1, show L.length - k = (L.length - (k + 1)) + 1 by omega, List.replicate_succ, List.set_cons_zero, List.take_add_one, h]
  simp
-- 
theorem mToldA_abs (L : List Bd) (hl : L.length ≤ 100) (hL : ∀ b ∈ L, b.t.rng ∧ b.t.size ≤ 90000000000) : AFunO Try.prog 83 (bsA L) [.bp 350001 0 []] (.val (.lst ((L.map clB).map Bd.cv))) (bsA L) := by
  have hsz := Bd.size_all L
  refine afunO_of Try.func83 Try.ntmps83 rfl rfl rfl rfl rfl rfl ?_
  intro w U hU
  refine aS (aR ?_)
  (refine nx (aA (gN rfl) rfl rfl rfl rfl rfl) rfl ?_)
  show AWp _ _ _ _ _ _ _
  refine aS (aR ?_)
  (refine nx (aM (gN rfl) rfl rfl rfl rfl rfl) rfl ?_)
  (refine nx (aNc (gN rfl) rfl rfl rfl rfl rfl) rfl ?_)
  (refine nx (aF (gN rfl) rfl rfl rfl rfl rfl rfl rfl rfl rfl) rfl ?_)
  (refine nx (a_load_fullv (gN rfl) rfl rfl rfl rfl rfl rfl rfl rfl rfl) rfl ?_)
  (refine nx (a_len (gN rfl) rfl rfl rfl rfl rfl rfl rfl) rfl ?_)
  (refine nx (a_mkM 200011 (k := L.length) (gN rfl) rfl rfl rfl rfl rfl rfl rfl rfl rfl rfl rfl rfl rfl rfl (by first | rfl | omega | (simp only [List.length_set, List.length_map, List.length_append, List.length_cons, List.length_nil] <;> omega) | (simp <;> omega)) (by first | rfl | omega | (simp only [List.length_set, List.length_map, List.length_append, List.length_cons, List.length_nil] <;> omega) | (simp <;> omega)) rfl (by first | rfl | omega | (simp only [List.length_set, List.length_map, List.length_append, List.length_cons, List.length_nil] <;> omega) | (simp <;> omega))) (by kernel_rfl) ?_)
  (refine nx (aA (gN rfl) rfl rfl rfl rfl rfl) rfl ?_)
  show AWp _ _ _ _ _ _ _
  refine aS (aS (aR ?_))
  (refine nx (aM (gN rfl) rfl rfl rfl rfl rfl) rfl ?_)
  (refine nx (aNc (gN rfl) rfl rfl rfl rfl rfl) rfl ?_)
  (refine nx (aF (gN rfl) rfl rfl rfl rfl rfl rfl rfl rfl rfl) rfl ?_)
  (refine nx (a_load_fullv (gN rfl) rfl rfl rfl rfl rfl rfl rfl rfl rfl) rfl ?_)
  (refine nx (a_len (gN rfl) rfl rfl rfl rfl rfl rfl rfl) rfl ?_)
  (refine nx (aM (gN rfl) rfl rfl rfl rfl rfl) rfl ?_)
  show AWp _ _ _ _ _ _ _
  refine aB (awp_count L.length (fun k => (3, .sl 200011 0 L.length 3) :: (15, .val (.lst (L.map Bd.cv))) :: (16, .val (.i (L.map Bd.cv).length)) :: (17, .val (.i k)) :: (200011, .mrow 131 3 (tlL L k)) :: bsA L) (wk_sub ⟨rfl, rfl, rfl, rfl, ?_, rfl, rfl, rfl, rfl, trivial⟩) ?_)
  · rw [tlL_zero]; rfl
  intro k hk
  refine aS (aR ?_)
  (refine nx (a_lss (gN rfl) rfl rfl rfl rfl rfl rfl) rfl ?_)
  show AWp _ _ _ _ _ _ _
  refine aS (aC rfl (fun hlt => ?_) (fun hlt => ?_))
  · have hkl : k < L.length := by simpa using hlt
    obtain ⟨x, hx⟩ : ∃ x, L[k]? = some x := ⟨L[k], List.getElem?_eq_getElem hkl⟩
    have hx' := Bd.map_at hx
    obtain ⟨hxr, hxs⟩ := hL x (List.mem_of_getElem? hx)
    have hz := tlL_at hkl
    have hlen := tlL_len L (Nat.le_of_lt hkl)
    refine aK ?_
    show AWp _ _ _ _ _ _ _
    refine aS (aB (aS (aR ?_)))
    (refine nx (aM (gN rfl) rfl rfl rfl rfl rfl) rfl ?_)
    (refine nx (a_index (j := k) (gN rfl) rfl rfl rfl rfl rfl rfl rfl rfl rfl (hx') rfl (hsz)) rfl ?_)
    (refine nx (a_load_ad (gN rfl) rfl rfl rfl rfl rfl rfl rfl rfl rfl) rfl ?_)
    (refine nx (a_alloc (gN rfl) rfl rfl rfl rfl rfl rfl rfl rfl rfl rfl) (by kernel_rfl) ?_)
    (refine nx (aA (gN rfl) rfl rfl rfl rfl rfl) rfl ?_)
    (refine nx (aSt (gN rfl) rfl rfl rfl rfl rfl rfl rfl rfl rfl rfl) rfl ?_)
    show AWp _ _ _ _ _ _ _
    refine aD (by kernel_rfl) (by kernel_rfl) ?_
    (refine nx (aM (gN rfl) rfl rfl rfl rfl rfl) rfl ?_)
    (refine nx (aM (gN rfl) rfl rfl rfl rfl rfl) rfl ?_)
    (refine nx (aF (gN rfl) rfl rfl rfl rfl rfl rfl rfl rfl rfl) rfl ?_)
    (refine nx (aLb (gN rfl) rfl rfl rfl rfl rfl rfl rfl rfl rfl rfl rfl rfl) rfl ?_)
    (refine nx (aF (gN rfl) rfl rfl rfl rfl rfl rfl rfl rfl rfl) rfl ?_)
    (refine nx (aLb (gN rfl) rfl rfl rfl rfl rfl rfl rfl rfl rfl rfl rfl rfl) rfl ?_)
    (refine nx (a_call (gN rfl) rfl rfl rfl rfl rfl (clone_abs w hxr hxs)) rfl ?_)
    (refine nx (a_build (gN rfl) rfl rfl rfl rfl rfl rfl rfl rfl rfl rfl rfl) rfl ?_)
    (refine nx (aIm (k := k) (gN rfl) rfl rfl rfl rfl rfl rfl rfl rfl rfl (by first | rfl | omega | (simp only [List.length_set, List.length_map, List.length_append, List.length_cons, List.length_nil] <;> omega) | (simp <;> omega))) rfl ?_)
    (refine nx (a_storeM (gN rfl) rfl rfl rfl rfl rfl rfl (hz) rfl rfl (by first | rfl | omega | (simp only [List.length_set, List.length_map, List.length_append, List.length_cons, List.length_nil] <;> omega) | (simp <;> omega)) rfl) rfl ?_)
    refine ⟨by kernel_rfl, ?_⟩
    show AWp _ _ _ _ _ _ _
    refine aR ?_
    (refine nx (a_add (gN rfl) rfl rfl rfl rfl rfl rfl (by first | omega | (simp only [List.length_map, List.length_append, List.length_cons, List.length_nil] <;> omega) | (simp <;> omega))) rfl ?_)
    (refine nx (aM (gN rfl) rfl rfl rfl rfl rfl) rfl ?_)
    refine ⟨hkl, wk_sub ⟨rfl, rfl, rfl, rfl, ?_, rfl, rfl, rfl, rfl, trivial⟩⟩
    rw [← tlL_set hx]
    rfl
  · have hkl : k = L.length := by
      have : ¬ k < L.length := by simpa using hlt
      omega
    subst hkl
    rw [tlL_end]
    refine aE ?_
    show AWp _ _ _ _ _ _ _
    refine aS (aR ?_)
    (refine nx (aM (gN rfl) rfl rfl rfl rfl rfl) rfl ?_)
    (refine nx (aA (gN rfl) rfl rfl rfl rfl rfl) rfl ?_)
    show AWp _ _ _ _ _ _ _
    refine aT ⟨.inr rfl, _, wk_frz 2 200011 rfl rfl rfl (.inr (by decide)) (by rw [List.length_map, List.length_map]; omega) (s' := bsA L) ⟨rfl, rfl, rfl, rfl, trivial⟩ (by kernel_rfl), ?_, rfl, rfl, rfl, rfl, trivial⟩
    show some (AV.val (.lst ((((L.map clB).map Bd.cv).drop 0).take L.length))) = _
    rw [List.drop_zero, List.take_of_length_le (by simp)]
-- 
theorem mToldB_abs (L : List Bd) (hl : L.length ≤ 100) (hL : ∀ b ∈ L, b.t.rng ∧ b.t.size ≤ 90000000000) : AFunO Try.prog 83 (bsB L) [.bp 350001 0 []] (.val (.lst ((L.map clB).map Bd.cv))) (bsB L) := by
  have hsz := Bd.size_all L
  refine afunO_of Try.func83 Try.ntmps83 rfl rfl rfl rfl rfl rfl ?_
  intro w U hU
  refine aS (aR ?_)
  (refine nx (aA (gN rfl) rfl rfl rfl rfl rfl) rfl ?_)
  show AWp _ _ _ _ _ _ _
  refine aS (aR ?_)
  (refine nx (aM (gN rfl) rfl rfl rfl rfl rfl) rfl ?_)
  (refine nx (aNc (gN rfl) rfl rfl rfl rfl rfl) rfl ?_)
  (refine nx (aF (gN rfl) rfl rfl rfl rfl rfl rfl rfl rfl rfl) rfl ?_)
  (refine nx (aLf (gN rfl) rfl rfl rfl rfl rfl rfl rfl rfl rfl rfl rfl rfl rfl) rfl ?_)
  (refine nx (a_lenM (gN rfl) rfl rfl rfl rfl rfl rfl rfl) rfl ?_)
  (refine nx (a_mkM 200011 (k := L.length) (gN rfl) rfl rfl rfl rfl rfl rfl rfl rfl rfl rfl rfl rfl rfl rfl (by first | rfl | omega | (simp only [List.length_set, List.length_map, List.length_append, List.length_cons, List.length_nil] <;> omega) | (simp <;> omega)) (by first | rfl | omega | (simp only [List.length_set, List.length_map, List.length_append, List.length_cons, List.length_nil] <;> omega) | (simp <;> omega)) rfl (by first | rfl | omega | (simp only [List.length_set, List.length_map, List.length_append, List.length_cons, List.length_nil] <;> omega) | (simp <;> omega))) (by kernel_rfl) ?_)
  (refine nx (aA (gN rfl) rfl rfl rfl rfl rfl) rfl ?_)
  show AWp _ _ _ _ _ _ _
  refine aS (aS (aR ?_))
  (refine nx (aM (gN rfl) rfl rfl rfl rfl rfl) rfl ?_)
  (refine nx (aNc (gN rfl) rfl rfl rfl rfl rfl) rfl ?_)
  (refine nx (aF (gN rfl) rfl rfl rfl rfl rfl rfl rfl rfl rfl) rfl ?_)
  (refine nx (aLf (gN rfl) rfl rfl rfl rfl rfl rfl rfl rfl rfl rfl rfl rfl rfl) rfl ?_)
  (refine nx (a_lenM (gN rfl) rfl rfl rfl rfl rfl rfl rfl) rfl ?_)
  (refine nx (aM (gN rfl) rfl rfl rfl rfl rfl) rfl ?_)
  show AWp _ _ _ _ _ _ _
  refine aB (awp_count L.length (fun k => (3, .sl 200011 0 L.length 3) :: (15, .sl 300001 0 L.length 3) :: (16, .val (.i L.length)) :: (17, .val (.i k)) :: (200011, .mrow 131 3 (tlL L k)) :: bsB L) (wk_sub ⟨rfl, rfl, rfl, rfl, ?_, rfl, rfl, rfl, rfl, trivial⟩) ?_)
  · rw [tlL_zero]; rfl
  intro k hk
  refine aS (aR ?_)
  (refine nx (a_lss (gN rfl) rfl rfl rfl rfl rfl rfl) rfl ?_)
  show AWp _ _ _ _ _ _ _
  refine aS (aC rfl (fun hlt => ?_) (fun hlt => ?_))
  · have hkl : k < L.length := by simpa using hlt
    obtain ⟨x, hx⟩ : ∃ x, L[k]? = some x := ⟨L[k], List.getElem?_eq_getElem hkl⟩
    have hx' := Bd.map_at hx
    obtain ⟨hxr, hxs⟩ := hL x (List.mem_of_getElem? hx)
    have hz := tlL_at hkl
    have hlen := tlL_len L (Nat.le_of_lt hkl)
    refine aK ?_
    show AWp _ _ _ _ _ _ _
    refine aS (aB (aS (aR ?_)))
    (refine nx (aM (gN rfl) rfl rfl rfl rfl rfl) rfl ?_)
    (refine nx (aIm (k := k) (gN rfl) rfl rfl rfl rfl rfl rfl rfl rfl rfl (by first | rfl | omega | (simp only [List.length_set, List.length_map, List.length_append, List.length_cons, List.length_nil] <;> omega) | (simp <;> omega))) rfl ?_)
    (refine nx (a_loadM (gN rfl) rfl rfl rfl rfl rfl rfl rfl rfl (hx') rfl (by first | rfl | omega | (simp only [List.length_set, List.length_map, List.length_append, List.length_cons, List.length_nil] <;> omega) | (simp <;> omega)) rfl rfl) rfl ?_)
    (refine nx (a_alloc (gN rfl) rfl rfl rfl rfl rfl rfl rfl rfl rfl rfl) (by kernel_rfl) ?_)
    (refine nx (aA (gN rfl) rfl rfl rfl rfl rfl) rfl ?_)
    (refine nx (aSt (gN rfl) rfl rfl rfl rfl rfl rfl rfl rfl rfl rfl) rfl ?_)
    show AWp _ _ _ _ _ _ _
    refine aD (by kernel_rfl) (by kernel_rfl) ?_
    (refine nx (aM (gN rfl) rfl rfl rfl rfl rfl) rfl ?_)
    (refine nx (aM (gN rfl) rfl rfl rfl rfl rfl) rfl ?_)
    (refine nx (aF (gN rfl) rfl rfl rfl rfl rfl rfl rfl rfl rfl) rfl ?_)
    (refine nx (aLb (gN rfl) rfl rfl rfl rfl rfl rfl rfl rfl rfl rfl rfl rfl) rfl ?_)
    (refine nx (aF (gN rfl) rfl rfl rfl rfl rfl rfl rfl rfl rfl) rfl ?_)
    (refine nx (aLb (gN rfl) rfl rfl rfl rfl rfl rfl rfl rfl rfl rfl rfl rfl) rfl ?_)
    (refine nx (a_call (gN rfl) rfl rfl rfl rfl rfl (clone_abs w hxr hxs)) rfl ?_)
    (refine nx (a_build (gN rfl) rfl rfl rfl rfl rfl rfl rfl rfl rfl rfl rfl) rfl ?_)
    (refine nx (aIm (k := k) (gN rfl) rfl rfl rfl rfl rfl rfl rfl rfl rfl (by first | rfl | omega | (simp only [List.length_set, List.length_map, List.length_append, List.length_cons, List.length_nil] <;> omega) | (simp <;> omega))) rfl ?_)
    (refine nx (a_storeM (gN rfl) rfl rfl rfl rfl rfl rfl (hz) rfl rfl (by first | rfl | omega | (simp only [List.length_set, List.length_map, List.length_append, List.length_cons, List.length_nil] <;> omega) | (simp <;> omega)) rfl) rfl ?_)
    refine ⟨by kernel_rfl, ?_⟩
    show AWp _ _ _ _ _ _ _
    refine aR ?_
    (refine nx (a_add (gN rfl) rfl rfl rfl rfl rfl rfl (by first | omega | (simp only [List.length_map, List.length_append, List.length_cons, List.length_nil] <;> omega) | (simp <;> omega))) rfl ?_)
    (refine nx (aM (gN rfl) rfl rfl rfl rfl rfl) rfl ?_)
    refine ⟨hkl, wk_sub ⟨rfl, rfl, rfl, rfl, ?_, rfl, rfl, rfl, rfl, trivial⟩⟩
    rw [← tlL_set hx]
    rfl
  · have hkl : k = L.length := by
      have : ¬ k < L.length := by simpa using hlt
      omega
    subst hkl
    rw [tlL_end]
    refine aE ?_
    show AWp _ _ _ _ _ _ _
    refine aS (aR ?_)
    (refine nx (aM (gN rfl) rfl rfl rfl rfl rfl) rfl ?_)
    (refine nx (aA (gN rfl) rfl rfl rfl rfl rfl) rfl ?_)
    show AWp _ _ _ _ _ _ _
    refine aT ⟨.inr rfl, _, wk_frz 2 200011 rfl rfl rfl (.inr (by decide)) (by rw [List.length_map, List.length_map]; omega) (s' := bsB L) ⟨rfl, rfl, rfl, rfl, trivial⟩ (by kernel_rfl), ?_, rfl, rfl, rfl, rfl, trivial⟩
    show some (AV.val (.lst ((((L.map clB).map Bd.cv).drop 0).take L.length))) = _
    rw [List.drop_zero, List.take_of_length_le (by simp)]
theorem mTold_abs (m : Nat) (L : List Bd) (hl : L.length ≤ 100) (hL : ∀ b ∈ L, b.t.rng ∧ b.t.size ≤ 90000000000) : AFunO Try.prog 83 (bst m L) [.bp 350001 0 []] (.val (.lst ((L.map clB).map Bd.cv))) (bst m L) := by
  by_cases h : L.length ≤ m
  · rw [bst_A h]; exact mToldA_abs L hl hL
  · rw [bst_B h]; exact mToldB_abs L hl hL
theorem behind_st (L : List Bd) : AFunO Try.prog 69 [] [.val (.lst (L.map Bd.cv))] (.bp 350001 0 []) (bst L.length L) := by
  rw [bst_A (Nat.le_refl _)]; exact behind_abs L
theorem behind_nil : AFunO Try.prog 69 [] [⟨0, .lst [], 1, 0, []⟩] (.bp 350001 0 []) (bst 0 []) := by
  have h := behind_st []
  refine ⟨h.1, fun U w hv a0 vs hU hpS hargs => h.2 U w hv a0 vs hU hpS ?_⟩
  obtain ⟨u, us, e, hu, h2⟩ := hargs
  have hu : VRep (Us w U (fun _ _ => False)) w (.lst []) u := hu.1
  exact ⟨u, us, e, avrep_val hu, h2⟩
-- 
theorem mIs_abs (W : World) (p t : Tm) (hr : p.rng) (hok : p.ok) (ht : t.rng) (hv : p.vs.length ≤ 65) : AFun Try.prog W 56 [p.cw, t.cw] (.val (.b (mt p t []).1)) := by
  refine afun_of (rs := [.b (mt p t []).1]) Try.func56 Try.ntmps56 rfl rfl rfl rfl ?_
  intro w U hW
  refine aS (aR ?_)
  (refine nx (a_box (gN rfl) rfl rfl rfl rfl rfl) rfl ?_)
  (refine nx (a_box (gN rfl) rfl rfl rfl rfl rfl) rfl ?_)
  (refine nx (aA (gN rfl) rfl rfl rfl rfl rfl) rfl ?_)
  show AWp _ _ _ _ _ _ _
  refine aS (aD (by kernel_rfl) (by kernel_rfl) ?_)
  (refine nx (a_callO (gN rfl) rfl rfl rfl rfl rfl (behind_nil) (by repeat (first | exact trivial | refine ⟨rfl, ?_⟩)) (by first | rfl | kernel_rfl) (bst_leave _ _) (by first | rfl | kernel_rfl) (by first | rfl | kernel_rfl) (fun k v h => by first | (rw [hW.1] at h; cases h) | (have h2 := hU k v h; cases h2))) rfl ?_)
  (refine nx (aL (gN rfl) rfl rfl rfl rfl rfl rfl rfl rfl rfl rfl rfl rfl) rfl ?_)
  (refine nx (aL (gN rfl) rfl rfl rfl rfl rfl rfl rfl rfl rfl rfl rfl rfl) rfl ?_)
  (refine nx (a_callO (gN rfl) rfl rfl rfl rfl rfl (mMatch_abs 0 p hr hok t [] ht (Nat.le_refl _) (by simpa using hv) (fun b hb => by cases hb)) (by repeat (first | exact trivial | refine ⟨rfl, ?_⟩)) (bst_lend _ _) (bst_leave _ _) (by first | rfl | kernel_rfl) (by first | rfl | kernel_rfl) (hnb_of (by first | rfl | kernel_rfl))) rfl ?_)
  (refine nx (aA (gN rfl) rfl rfl rfl rfl rfl) rfl ?_)
  refine ⟨by kernel_rfl, ?_⟩
  show AWp _ _ _ _ _ _ _
  exact aT ⟨.inr rfl, rfl⟩
noncomputable def matchL (L : List Bd) (p t : Tm) : List Bd := if (mt p t L).1 = true then (mt p t L).2.map clB else []
-- 
theorem mMatchF_abs (W : World) (L : List Bd) (p t : Tm) (hr : p.rng) (hok : p.ok) (ht : t.rng) (hv : L.length + p.vs.length ≤ 65) (hL : rngL L) (hS : ∀ b ∈ (mt p t L).2, b.t.size ≤ 90000000000) : AFun Try.prog W 67 [.lst (L.map Bd.cv), p.cw, t.cw] (.tup [.lst ((matchL L p t).map Bd.cv), .b (mt p t L).1]) := by
  have hlen : (mt p t L).2.length ≤ 100 := by have := (mt_grw p t L).le.2; omega
  have hrng := rngL.mt p t L ht hL
  refine afun_of (rs := [.lst ((matchL L p t).map Bd.cv), .b (mt p t L).1]) Try.func67 Try.ntmps67 rfl rfl rfl rfl ?_
  intro w U hW
  refine aS (aR ?_)
  (refine nx (a_box (gN rfl) rfl rfl rfl rfl rfl) rfl ?_)
  (refine nx (a_box (gN rfl) rfl rfl rfl rfl rfl) rfl ?_)
  (refine nx (aA (gN rfl) rfl rfl rfl rfl rfl) rfl ?_)
  (refine nx (aA (gN rfl) rfl rfl rfl rfl rfl) rfl ?_)
  show AWp _ _ _ _ _ _ _
  refine aS (aR ?_)
  (refine nx (aM (gN rfl) rfl rfl rfl rfl rfl) rfl ?_)
  (refine nx (a_callO (gN rfl) rfl rfl rfl rfl rfl (behind_st L) (by repeat (first | exact trivial | refine ⟨rfl, ?_⟩)) (by first | rfl | kernel_rfl) (bst_leave _ _) (by first | rfl | kernel_rfl) (by first | rfl | kernel_rfl) (fun k v h => by first | (rw [hW.1] at h; cases h) | (have h2 := hU k v h; cases h2))) rfl ?_)
  (refine nx (aA (gN rfl) rfl rfl rfl rfl rfl) rfl ?_)
  show AWp _ _ _ _ _ _ _
  refine aS (aS (aR ?_))
  (refine nx (aM (gN rfl) rfl rfl rfl rfl rfl) rfl ?_)
  (refine nx (aL (gN rfl) rfl rfl rfl rfl rfl rfl rfl rfl rfl rfl rfl rfl) rfl ?_)
  (refine nx (aL (gN rfl) rfl rfl rfl rfl rfl rfl rfl rfl rfl rfl rfl rfl) rfl ?_)
  (refine nx (a_callO (gN rfl) rfl rfl rfl rfl rfl (mMatch_abs L.length p hr hok t L ht (Nat.le_refl _) hv hL) (by repeat (first | exact trivial | refine ⟨rfl, ?_⟩)) (bst_lend _ _) (bst_leave _ _) (by first | rfl | kernel_rfl) (by first | rfl | kernel_rfl) (hnb_of (by first | rfl | kernel_rfl))) rfl ?_)
  (refine nx (a_not (gN rfl) rfl rfl rfl rfl rfl) rfl ?_)
  show AWp _ _ _ _ _ _ _
  unfold matchL
  refine aC rfl (fun hc => ?_) (fun hc => ?_)
  · have hc : (mt p t L).1 = false := by simpa using hc
    rw [hc, if_neg (by simp)]
    refine aS (aR ?_)
    (refine nx (aA (gN rfl) rfl rfl rfl rfl rfl) rfl ?_)
    (refine nx (aA (gN rfl) rfl rfl rfl rfl rfl) rfl ?_)
    show AWp _ _ _ _ _ _ _
    exact aT ⟨.inr rfl, rfl⟩
  · have hc : (mt p t L).1 = true := by simpa using hc
    rw [hc, if_pos rfl]
    refine aK ?_
    show AWp _ _ _ _ _ _ _
    refine aS (aR ?_)
    (refine nx (aM (gN rfl) rfl rfl rfl rfl rfl) rfl ?_)
    (refine nx (a_callO (gN rfl) rfl rfl rfl rfl rfl (mTold_abs L.length (mt p t L).2 hlen (fun b hb => ⟨hrng b hb, hS b hb⟩)) (by repeat (first | exact trivial | refine ⟨rfl, ?_⟩)) (bst_lend _ _) (bst_leave _ _) (by first | rfl | kernel_rfl) (by first | rfl | kernel_rfl) (hnb_of (by first | rfl | kernel_rfl))) rfl ?_)
    (refine nx (aA (gN rfl) rfl rfl rfl rfl rfl) rfl ?_)
    (refine nx (aA (gN rfl) rfl rfl rfl rfl rfl) rfl ?_)
    show AWp _ _ _ _ _ _ _
    exact aT ⟨.inr rfl, rfl⟩



end Go.Proofs.Ytekboofbedakcaa
namespace Go.Proofs.Ytekboofbedakcaa
set_option linter.unusedVariables false
set_option linter.unusedSimpArgs false
theorem split_at {l : List Tm} {m : Nat} {s : Tm} (h : l[m]? = some s) : l = l.take m ++ s :: l.drop (m + 1) ∧ m < l.length := by
  have hm : m < l.length := by
    rcases Nat.lt_or_ge m l.length with h1 | h1
    · exact h1
    · rw [List.getElem?_eq_none h1] at h; cases h
  refine ⟨?_, hm⟩
  have e : l[m] = s := by rw [List.getElem?_eq_getElem hm] at h; exact Option.some.inj h
  rw [← e, ← List.drop_eq_getElem_cons hm, List.take_append_drop]
def cov (a b : Tm) : Prop := ∀ v, b.vs.count v ≤ a.vs.count v
def ordV (z w : Int) : Int := if 0 < z then 1 else if z < 0 then -1 else w
noncomputable def pickV (o : Int) (c d : Prop) : Int :=
  haveI := Classical.propDecidable
  if (o = 1 ∧ ¬ c) ∨ (o = -1 ∧ ¬ d) then 2 else o
noncomputable def verd (z : Int) (c d : Prop) (w : Int) : Int := if w = 0 then 0 else pickV (ordV z w) c d
def hdK (a b : Tm) : Int := if a.f < 0 ∨ b.f < 0 then 2 else if a.f ≠ b.f then cmpZ a.f b.f else cmpZ a.l.length b.l.length
noncomputable def firstK (k : Int) (r : Int) : Int := if k ≠ 0 then k else r
noncomputable def szD (a b : Tm) : Int := (a.size : Int) - b.size
noncomputable def kb (p : Tm) : Tm → Int :=
  Tm.rec (motive_1 := fun _ => Tm → Int) (motive_2 := fun _ => List Tm → Int)
    (fun f l ih t => verd (szD ⟨f, l⟩ t) (cov ⟨f, l⟩ t) (cov t ⟨f, l⟩) (if f ≠ t.f ∨ (Tm.mk f l).ps.length ≠ t.ps.length then hdK ⟨f, l⟩ t else if f < 0 then 0 else ih t.l))
    (fun _ => 0)
    (fun _ _ ih1 ih2 ts => match ts with | [] => 0 | t :: ts => firstK (ih1 t) (ih2 ts)) p
noncomputable def kbs (ps : List Tm) : List Tm → Int :=
  Tm.rec_1 (motive_1 := fun _ => Tm → Int) (motive_2 := fun _ => List Tm → Int)
    (fun f l ih t => verd (szD ⟨f, l⟩ t) (cov ⟨f, l⟩ t) (cov t ⟨f, l⟩) (if f ≠ t.f ∨ (Tm.mk f l).ps.length ≠ t.ps.length then hdK ⟨f, l⟩ t else if f < 0 then 0 else ih t.l))
    (fun _ => 0)
    (fun _ _ ih1 ih2 ts => match ts with | [] => 0 | t :: ts => firstK (ih1 t) (ih2 ts)) ps
noncomputable def wi (a b : Tm) : Int := if a.f ≠ b.f ∨ a.ps.length ≠ b.ps.length then hdK a b else kbs a.ps b.ps
theorem kbs_nil (ts : List Tm) : kbs [] ts = 0 := rfl
theorem kbs_cons (p : Tm) (ps : List Tm) (t : Tm) (ts : List Tm) : kbs (p :: ps) (t :: ts) = firstK (kb p t) (kbs ps ts) := rfl
theorem kb_eq (a b : Tm) : kb a b = verd (szD a b) (cov a b) (cov b a) (wi a b) := by
  cases a with
  | mk f l =>
    show verd _ _ _ _ = _
    congr 1
    unfold wi
    simp only
    split
    · rfl
    · rename_i h
      by_cases hf : f < 0
      · rw [if_pos hf, Tm.ps_of_var (t := ⟨f, l⟩) hf, kbs_nil]
      · rw [if_neg hf, Tm.ps_of_sym (t := ⟨f, l⟩) (by show 0 ≤ f; omega), Tm.ps_of_sym (t := b) (by have := Classical.not_not.1 (fun e => h (.inl e)); omega)]
        rfl

theorem verd_cases (z : Int) (c d : Prop) (w : Int) : (w = 0 ∧ verd z c d w = 0) ∨ (w ≠ 0 ∧ ∃ o, ((0 < z ∧ o = 1) ∨ (z < 0 ∧ o = -1) ∨ (z = 0 ∧ o = w)) ∧ ((verd z c d w = 2 ∧ ((o = 1 ∧ ¬ c) ∨ (o = -1 ∧ ¬ d))) ∨ (verd z c d w = o ∧ ¬ ((o = 1 ∧ ¬ c) ∨ (o = -1 ∧ ¬ d))))) := by
  unfold verd
  by_cases h0 : w = 0
  · left; exact ⟨h0, if_pos h0⟩
  · right
    refine ⟨h0, ordV z w, ?_, ?_⟩
    · unfold ordV
      by_cases h1 : 0 < z
      · rw [if_pos h1]; exact .inl ⟨h1, rfl⟩
      · rw [if_neg h1]
        by_cases h2 : z < 0
        · rw [if_pos h2]; exact .inr (.inl ⟨h2, rfl⟩)
        · rw [if_neg h2]; exact .inr (.inr ⟨by omega, rfl⟩)
    · rw [if_neg h0]
      generalize ordV z w = o
      unfold pickV
      by_cases h3 : (o = 1 ∧ ¬ c) ∨ (o = -1 ∧ ¬ d)
      · left; exact ⟨if_pos h3, h3⟩
      · right; exact ⟨if_neg h3, h3⟩
theorem verd_zero {z : Int} {c d : Prop} {w : Int} : verd z c d w = 0 ↔ w = 0 := by
  rcases verd_cases z c d w with ⟨h1, h2⟩ | ⟨h1, o, h2, ⟨h3, h4⟩ | ⟨h3, h4⟩⟩
  · exact ⟨fun _ => h1, fun _ => h2⟩
  · omega
  · omega
theorem verd_one {z : Int} {c d : Prop} {w : Int} : verd z c d w = 1 ↔ w ≠ 0 ∧ c ∧ (0 < z ∨ (z = 0 ∧ w = 1)) := by
  rcases verd_cases z c d w with ⟨h1, h2⟩ | ⟨h1, o, h2, ⟨h3, h4⟩ | ⟨h3, h4⟩⟩
  · constructor
    · intro h; omega
    · rintro ⟨h, _⟩; exact absurd h1 h
  · constructor
    · intro h; omega
    · rintro ⟨_, hc, h⟩
      have : o = 1 := by omega
      rcases h4 with h4 | h4
      · exact absurd hc h4.2
      · omega
  · constructor
    · intro h
      have ho : o = 1 := by omega
      exact ⟨h1, Classical.not_not.1 fun hc => h4 (.inl ⟨ho, hc⟩), by omega⟩
    · rintro ⟨_, hc, h⟩; omega
theorem verd_less {z : Int} {c d : Prop} {w : Int} : verd z c d w = -1 ↔ w ≠ 0 ∧ d ∧ (z < 0 ∨ (z = 0 ∧ w = -1)) := by
  rcases verd_cases z c d w with ⟨h1, h2⟩ | ⟨h1, o, h2, ⟨h3, h4⟩ | ⟨h3, h4⟩⟩
  · constructor
    · intro h; omega
    · rintro ⟨h, _⟩; exact absurd h1 h
  · constructor
    · intro h; omega
    · rintro ⟨_, hc, h⟩
      have : o = -1 := by omega
      rcases h4 with h4 | h4
      · omega
      · exact absurd hc h4.2
  · constructor
    · intro h
      have ho : o = -1 := by omega
      exact ⟨h1, Classical.not_not.1 fun hc => h4 (.inr ⟨ho, hc⟩), by omega⟩
    · rintro ⟨_, hc, h⟩; omega
def K4 (k : Int) : Prop := k = 0 ∨ k = 1 ∨ k = -1 ∨ k = 2
theorem verd_four {z : Int} {c d : Prop} {w : Int} (h : K4 w) : K4 (verd z c d w) := by
  unfold K4 at *
  rcases verd_cases z c d w with ⟨h1, h2⟩ | ⟨h1, o, h2, ⟨h3, h4⟩ | ⟨h3, h4⟩⟩ <;> omega
theorem verd_twice (z : Int) (c d : Prop) (w : Int) (h : K4 w) : verd z c d (verd z c d w) = verd z c d w := by
  have h1 := verd_four (z := z) (c := c) (d := d) h
  have h2 := verd_four (z := z) (c := c) (d := d) h1
  have a0 := @verd_zero z c d w
  have a1 := @verd_one z c d w
  have a2 := @verd_less z c d w
  have b0 := @verd_zero z c d (verd z c d w)
  have b1 := @verd_one z c d (verd z c d w)
  have b2 := @verd_less z c d (verd z c d w)
  generalize verd z c d (verd z c d w) = y at *
  generalize verd z c d w = x at *
  unfold K4 at h1 h2
  rcases h1 with h1 | h1 | h1 | h1
  · exact h1 ▸ b0.2 h1
  · rw [h1]; exact b1.2 ⟨by omega, (a1.1 h1).2.1, by have := (a1.1 h1).2.2; omega⟩
  · rw [h1]; exact b2.2 ⟨by omega, (a2.1 h1).2.1, by have := (a2.1 h1).2.2; omega⟩
  · rcases h2 with h2 | h2 | h2 | h2
    · have := b0.1 h2; omega
    · obtain ⟨c1, c2, c3⟩ := b1.1 h2
      have hw : w ≠ 0 := fun e => by have := a0.2 e; omega
      have := a1.2 ⟨hw, c2, by omega⟩
      omega
    · obtain ⟨c1, c2, c3⟩ := b2.1 h2
      have hw : w ≠ 0 := fun e => by have := a0.2 e; omega
      have := a2.2 ⟨hw, c2, by omega⟩
      omega
    · omega
theorem hd_four (a b : Tm) : K4 (hdK a b) := by
  unfold hdK K4
  split
  · omega
  · split
    · rcases cmpZ_cases a.f b.f with h | h | h <;> omega
    · rcases cmpZ_cases a.l.length b.l.length with h | h | h <;> omega
theorem hd_ne {a b : Tm} (h : a.f ≠ b.f ∨ a.ps.length ≠ b.ps.length) : hdK a b ≠ 0 := by
  unfold hdK
  split
  · omega
  · rename_i h1
    rw [Tm.ps_of_sym (t := a) (by omega), Tm.ps_of_sym (t := b) (by omega)] at h
    split
    · rcases cmpZ_cases a.f b.f with h2 | h2 | h2 <;> omega
    · rcases cmpZ_cases a.l.length b.l.length with h2 | h2 | h2 <;> omega
theorem kbs_four : ∀ {l m : List Tm}, (∀ s ∈ l, ∀ t, K4 (kb s t)) → K4 (kbs l m)
  | [], m, _ => .inl rfl
  | _ :: _, [], _ => .inl rfl
  | x :: l, y :: m, h => by
    rw [kbs_cons]
    unfold firstK
    split
    · exact h x (by simp) y
    · exact kbs_four fun s hs => h s (List.mem_cons_of_mem _ hs)
theorem kb_four (a : Tm) : ∀ b, K4 (kb a b) := by
  induction a using Tm.indp with
  | h a ih =>
    intro b
    rw [kb_eq]
    refine verd_four ?_
    unfold wi
    split
    · exact hd_four a b
    · exact kbs_four ih
theorem kbs_zero : ∀ {l m : List Tm}, l.length = m.length → (∀ s ∈ l, ∀ t, kb s t = 0 ↔ s.strip = t.strip) → (kbs l m = 0 ↔ l.map Tm.strip = m.map Tm.strip)
  | [], [], _, _ => by simp [kbs_nil]
  | [], _ :: _, h, _ => by simp at h
  | _ :: _, [], h, _ => by simp at h
  | x :: l, y :: m, h, ih => by
    rw [kbs_cons, List.map_cons, List.map_cons, List.cons.injEq, ← ih x (by simp) y, ← kbs_zero (by simpa using h) fun s hs => ih s (List.mem_cons_of_mem _ hs)]
    unfold firstK
    split
    · rename_i h1
      constructor
      · intro h2; exact absurd h2 h1
      · rintro ⟨h2, _⟩; exact h2
    · rename_i h1
      exact ⟨fun h2 => ⟨Classical.not_not.1 h1, h2⟩, fun h2 => h2.2⟩
theorem strip_eq_iff (a b : Tm) : a.strip = b.strip ↔ a.f = b.f ∧ a.ps.map Tm.strip = b.ps.map Tm.strip := by
  rw [Tm.strip_eq, Tm.strip_eq b, Tm.mk.injEq]
theorem kb_zero (a : Tm) : ∀ b, kb a b = 0 ↔ a.strip = b.strip := by
  induction a using Tm.indp with
  | h a ih =>
    intro b
    rw [kb_eq, verd_zero, strip_eq_iff]
    unfold wi
    split
    · rename_i h
      constructor
      · intro h1; exact absurd h1 (hd_ne h)
      · rintro ⟨h1, h2⟩
        have := congrArg List.length h2
        rw [List.length_map, List.length_map] at this
        omega
    · rename_i h
      have hf : a.f = b.f := by omega
      rw [kbs_zero (by omega) ih]
      exact ⟨fun h1 => ⟨hf, h1⟩, fun h1 => h1.2⟩
theorem cov_strip {a b : Tm} : cov a.strip b ↔ cov a b := by unfold cov; rw [Tm.strip_vs]
theorem cov_strip2 {a b : Tm} : cov a b.strip ↔ cov a b := by unfold cov; rw [Tm.strip_vs]
theorem cov_trans {a b c : Tm} (h : cov a b) (h2 : cov b c) : cov a c := fun v => Nat.le_trans (h2 v) (h v)
theorem hd_strip (a b : Tm) : hdK a.strip b.strip = hdK a b := by
  unfold hdK
  rw [Tm.strip_f, Tm.strip_f]
  split
  · rfl
  · rename_i h
    split
    · rfl
    · rw [Tm.strip_l, Tm.strip_l, List.length_map, List.length_map, Tm.ps_of_sym (t := a) (by omega), Tm.ps_of_sym (t := b) (by omega)]
theorem kbs_strip : ∀ {l m : List Tm}, (∀ s ∈ l, ∀ t, kb s.strip t.strip = kb s t) → kbs (l.map Tm.strip) (m.map Tm.strip) = kbs l m
  | [], m, _ => rfl
  | _ :: _, [], _ => rfl
  | x :: l, y :: m, h => by
    rw [List.map_cons, List.map_cons, kbs_cons, kbs_cons, h x (by simp) y, kbs_strip fun s hs => h s (List.mem_cons_of_mem _ hs)]
theorem kb_strip (a : Tm) : ∀ b, kb a.strip b.strip = kb a b := by
  induction a using Tm.indp with
  | h a ih =>
    intro b
    rw [kb_eq, kb_eq a]
    have h1 : wi a.strip b.strip = wi a b := by
      unfold wi
      rw [Tm.strip_f, Tm.strip_f, Tm.strip_ps, Tm.strip_ps, List.length_map, List.length_map, hd_strip, kbs_strip ih]
    have h2 : szD a.strip b.strip = szD a b := by unfold szD; rw [Tm.strip_size, Tm.strip_size]
    have h3 : cov a.strip b.strip = cov a b := propext (cov_strip.trans cov_strip2)
    have h4 : cov b.strip a.strip = cov b a := propext (cov_strip.trans cov_strip2)
    rw [h1, h2, h3, h4]
theorem kb_congr {a a' b b' : Tm} (h : a.strip = a'.strip) (h2 : b.strip = b'.strip) : kb a b = kb a' b' := by rw [← kb_strip a, h, h2, kb_strip]
theorem kb_stripL (a b : Tm) : kb a.strip b = kb a b := kb_congr (Tm.strip_strip a) rfl
theorem kb_one (a b : Tm) : kb a b = 1 ↔ cov a b ∧ (b.size < a.size ∨ (a.size = b.size ∧ wi a b = 1)) := by
  rw [kb_eq, verd_one]
  unfold szD
  constructor
  · rintro ⟨h1, h2, h3⟩; exact ⟨h2, by omega⟩
  · rintro ⟨h1, h2⟩
    refine ⟨fun e => ?_, h1, by omega⟩
    have h3 : kb a b = 0 := by rw [kb_eq, verd_zero]; exact e
    have h4 := (kb_zero a b).1 h3
    have h5 : a.size = b.size := by rw [← Tm.strip_size, h4, Tm.strip_size]
    omega
theorem hd_turn (a b : Tm) (h : hdK a b ≠ 2) : hdK b a = - hdK a b := by
  unfold hdK at *
  by_cases h1 : a.f < 0 ∨ b.f < 0
  · rw [if_pos h1] at h; exact absurd rfl h
  · rw [if_neg h1, if_neg (by omega)]
    by_cases h2 : a.f = b.f
    · rw [if_neg (by omega), if_neg (by omega)]
      rcases cmpZ_cases a.l.length b.l.length with h3 | h3 | h3 <;> rcases cmpZ_cases b.l.length a.l.length with h4 | h4 | h4 <;> omega
    · rw [if_pos (by omega), if_pos h2]
      rcases cmpZ_cases a.f b.f with h3 | h3 | h3 <;> rcases cmpZ_cases b.f a.f with h4 | h4 | h4 <;> omega
theorem hd_turn2 (a b : Tm) (h : hdK a b = 2) : hdK b a = 2 := by
  unfold hdK at *
  by_cases h1 : a.f < 0 ∨ b.f < 0
  · rw [if_pos (by omega)]
  · rw [if_neg h1] at h
    exfalso
    split at h
    · rcases cmpZ_cases a.f b.f with h3 | h3 | h3 <;> omega
    · rcases cmpZ_cases a.l.length b.l.length with h3 | h3 | h3 <;> omega
def trn (k : Int) : Int := if k = 2 then 2 else - k
theorem trn_four {k : Int} (h : K4 k) : (trn k = 0 ↔ k = 0) ∧ (trn k = 1 ↔ k = -1) ∧ (trn k = -1 ↔ k = 1) ∧ K4 (trn k) := by
  unfold trn K4 at *
  split <;> omega
theorem verd_turn {z : Int} {c d : Prop} {w : Int} (h : K4 w) : verd (-z) d c (trn w) = trn (verd z c d w) := by
  have h1 := verd_four (z := z) (c := c) (d := d) h
  have t0 := trn_four h
  have h2 := verd_four (z := -z) (c := d) (d := c) t0.2.2.2
  have t1 := trn_four h1
  have a0 := @verd_zero z c d w
  have a1 := @verd_one z c d w
  have a2 := @verd_less z c d w
  have b0 := @verd_zero (-z) d c (trn w)
  have b1 := @verd_one (-z) d c (trn w)
  have b2 := @verd_less (-z) d c (trn w)
  generalize verd (-z) d c (trn w) = y at *
  generalize verd z c d w = x at *
  have e0 : y = 0 ↔ x = 0 := by rw [b0, a0]; exact t0.1
  have e1 : y = 1 ↔ x = -1 := by
    rw [b1, a2]
    constructor
    · rintro ⟨g1, g2, g3⟩; exact ⟨fun e => g1 (t0.1.2 e), g2, by rcases g3 with g3 | ⟨g3, g4⟩; omega; exact .inr ⟨by omega, t0.2.1.1 g4⟩⟩
    · rintro ⟨g1, g2, g3⟩; exact ⟨fun e => g1 (t0.1.1 e), g2, by rcases g3 with g3 | ⟨g3, g4⟩; omega; exact .inr ⟨by omega, t0.2.1.2 g4⟩⟩
  have e2 : y = -1 ↔ x = 1 := by
    rw [b2, a1]
    constructor
    · rintro ⟨g1, g2, g3⟩; exact ⟨fun e => g1 (t0.1.2 e), g2, by rcases g3 with g3 | ⟨g3, g4⟩; omega; exact .inr ⟨by omega, t0.2.2.1.1 g4⟩⟩
    · rintro ⟨g1, g2, g3⟩; exact ⟨fun e => g1 (t0.1.1 e), g2, by rcases g3 with g3 | ⟨g3, g4⟩; omega; exact .inr ⟨by omega, t0.2.2.1.2 g4⟩⟩
  unfold trn
  unfold K4 at h1 h2
  split <;> omega
theorem kbs_turn : ∀ {l m : List Tm}, l.length = m.length → (∀ s ∈ l, ∀ t, kb t s = trn (kb s t)) → kbs m l = trn (kbs l m)
  | [], [], _, _ => by rw [kbs_nil]; rfl
  | [], _ :: _, h, _ => by simp at h
  | _ :: _, [], h, _ => by simp at h
  | x :: l, y :: m, h, ih => by
    rw [kbs_cons, kbs_cons, ih x (by simp) y, kbs_turn (by simpa using h) fun s hs => ih s (List.mem_cons_of_mem _ hs)]
    have := (trn_four (kb_four x y)).1
    unfold firstK
    by_cases h1 : kb x y = 0
    · rw [if_neg (fun e => e (this.2 h1)), if_neg (by omega)]
    · rw [if_pos (fun e => h1 (this.1 e)), if_pos h1]
theorem kb_turn (a : Tm) : ∀ b, kb b a = trn (kb a b) := by
  induction a using Tm.indp with
  | h a ih =>
    intro b
    rw [kb_eq, kb_eq a]
    have h1 : szD b a = - szD a b := by unfold szD; omega
    have h4 : K4 (wi a b) := by
      unfold wi
      split
      · exact hd_four a b
      · exact kbs_four fun s _ t => kb_four s t
    rw [h1, ← verd_turn h4]
    congr 1
    unfold wi
    by_cases h : a.f ≠ b.f ∨ a.ps.length ≠ b.ps.length
    · rw [if_pos h, if_pos (by omega)]
      unfold trn
      split
      · rename_i h2; exact hd_turn2 a b h2
      · rename_i h2; exact hd_turn a b h2
    · rw [if_neg h, if_neg (by omega)]
      exact kbs_turn (by omega) ih
structure Sc where
  sz : Int
  mp : List (Int × Int)
  sp : Int
  lk : Int
def mfind : List (Int × Int) → Int → Option Int
  | [], _ => none
  | (k, x) :: l, v => if k = v then some x else mfind l v
def mget (l : List (Int × Int)) (v : Int) : Int := (mfind l v).getD 0
def mput : List (Int × Int) → Int → Int → List (Int × Int)
  | [], v, y => [(v, y)]
  | (k, x) :: l, v, y => if k = v then (v, y) :: l else (k, x) :: mput l v y
theorem mput_ne (l : List (Int × Int)) (v y : Int) : mput l v y ≠ [] := by
  cases l with
  | nil => simp [mput]
  | cons p l =>
    obtain ⟨k, x⟩ := p
    rw [mput]
    split <;> simp
theorem mfind_put (l : List (Int × Int)) (v y u : Int) : mfind (mput l v y) u = if v = u then some y else mfind l u := by
  induction l with
  | nil => rfl
  | cons p l ih =>
    obtain ⟨k, x⟩ := p
    rw [mput]
    by_cases h : k = v
    · rw [if_pos h, mfind, mfind]
      by_cases h2 : v = u
      · rw [if_pos h2, if_pos h2]
      · rw [if_neg h2, if_neg h2, if_neg (by omega)]
    · rw [if_neg h, mfind, mfind]
      by_cases h2 : k = u
      · rw [if_pos h2, if_pos h2, if_neg (by omega)]
      · rw [if_neg h2, if_neg h2, ih]
theorem mget_put (l : List (Int × Int)) (v y u : Int) : mget (mput l v y) u = if v = u then y else mget l u := by
  unfold mget
  rw [mfind_put]
  split <;> rfl
def addVk (s : Sc) (v σ : Int) : Sc := ⟨s.sz, mput s.mp v (mget s.mp v + σ), s.sp + (max (mget s.mp v + σ) 0 - max (mget s.mp v) 0), s.lk + (max (-(mget s.mp v + σ)) 0 - max (-(mget s.mp v)) 0)⟩
def addN (σ : Int) (s : Sc) (t : Tm) : Sc := if t.f < 0 then addVk ⟨s.sz + σ, s.mp, s.sp, s.lk⟩ (-1 - t.f) σ else ⟨s.sz + σ, s.mp, s.sp, s.lk⟩
def addT (σ : Int) (s : Sc) (t : Tm) : Sc := t.flat.foldl (addN σ) s
def addL (σ : Int) (s : Sc) (l : List Tm) : Sc := (l.flatMap Tm.flat).foldl (addN σ) s
theorem addT_var {σ : Int} {s : Sc} {t : Tm} (h : t.f < 0) : addT σ s t = addVk ⟨s.sz + σ, s.mp, s.sp, s.lk⟩ (-1 - t.f) σ := by
  unfold addT
  rw [Tm.flat_eq, Tm.ps_of_var h]
  show addN σ s t = _
  unfold addN
  rw [if_pos h]
theorem addT_sym {σ : Int} {s : Sc} {t : Tm} (h : ¬ t.f < 0) : addT σ s t = addL σ ⟨s.sz + σ, s.mp, s.sp, s.lk⟩ t.l := by
  unfold addT addL
  rw [Tm.flat_eq, Tm.ps_of_sym (by omega), List.foldl_cons]
  congr 1
  unfold addN
  rw [if_neg h]
theorem addL_take {σ : Int} {s : Sc} {l : List Tm} {k : Nat} {t : Tm} (h : l[k]? = some t) : addL σ s (l.take (k + 1)) = addT σ (addL σ s (l.take k)) t := by
  unfold addL addT
  rw [List.take_add_one, h, List.flatMap_append, List.foldl_append]
  simp
def upS (l : List (Int × Int)) : Int := (l.map fun p => max p.2 0).sum
def dnS (l : List (Int × Int)) : Int := (l.map fun p => max (-p.2) 0).sum
def ndk (l : List (Int × Int)) : Prop := (l.map (·.1)).Nodup
theorem mfind_none {l : List (Int × Int)} {v : Int} (h : v ∉ l.map (·.1)) : mfind l v = none := by
  induction l with
  | nil => rfl
  | cons p l ih =>
    obtain ⟨k, x⟩ := p
    rw [List.map_cons, List.mem_cons, not_or] at h
    rw [mfind, if_neg (fun e => h.1 e.symm), ih h.2]
theorem keys_put {l : List (Int × Int)} {v y u : Int} (h : u ∈ (mput l v y).map (·.1)) : u = v ∨ u ∈ l.map (·.1) := by
  induction l with
  | nil => simp [mput] at h; exact .inl h
  | cons p l ih =>
    obtain ⟨k, x⟩ := p
    rw [mput] at h
    split at h
    · rename_i e
      rw [List.map_cons, List.mem_cons] at h ⊢
      rcases h with h | h
      · exact .inl h
      · exact .inr (.inr h)
    · rw [List.map_cons, List.mem_cons] at h ⊢
      rcases h with h | h
      · exact .inr (.inl h)
      · rcases ih h with h | h
        · exact .inl h
        · exact .inr (.inr h)
theorem ndk_put {l : List (Int × Int)} (h : ndk l) (v y : Int) : ndk (mput l v y) ∧ upS (mput l v y) = upS l + (max y 0 - max (mget l v) 0) ∧ dnS (mput l v y) = dnS l + (max (-y) 0 - max (-(mget l v)) 0) := by
  induction l with
  | nil => exact ⟨by simp [mput, ndk], by simp [mput, upS, mget, mfind], by simp [mput, dnS, mget, mfind]⟩
  | cons p l ih =>
    obtain ⟨k, x⟩ := p
    unfold ndk at h
    rw [List.map_cons, List.nodup_cons] at h
    rw [mput]
    by_cases e : k = v
    · rw [if_pos e]
      have hg : mget ((k, x) :: l) v = x := by unfold mget mfind; rw [if_pos e]; rfl
      rw [hg]
      refine ⟨by unfold ndk; rw [List.map_cons, List.nodup_cons]; exact e ▸ h, ?_, ?_⟩
      · simp only [upS, List.map_cons, List.sum_cons]; omega
      · simp only [dnS, List.map_cons, List.sum_cons]; omega
    · rw [if_neg e]
      have hg : mget ((k, x) :: l) v = mget l v := by unfold mget; rw [mfind, if_neg e]
      obtain ⟨h1, h2, h3⟩ := ih h.2
      rw [hg]
      refine ⟨?_, ?_, ?_⟩
      · unfold ndk
        rw [List.map_cons, List.nodup_cons]
        refine ⟨fun hm => ?_, h1⟩
        rcases keys_put hm with hm | hm
        · exact e hm
        · exact h.1 hm
      · unfold upS at h2 ⊢; rw [List.map_cons, List.sum_cons, h2, List.map_cons, List.sum_cons]; omega
      · unfold dnS at h3 ⊢; rw [List.map_cons, List.sum_cons, h3, List.map_cons, List.sum_cons]; omega
theorem ups_zero {l : List (Int × Int)} (h : ndk l) : 0 ≤ upS l ∧ (upS l = 0 ↔ ∀ v, mget l v ≤ 0) := by
  induction l with
  | nil => exact ⟨by simp [upS], by simp [upS, mget, mfind]⟩
  | cons p l ih =>
    obtain ⟨k, x⟩ := p
    unfold ndk at h
    rw [List.map_cons, List.nodup_cons] at h
    obtain ⟨h1, h2⟩ := ih h.2
    have e : upS ((k, x) :: l) = max x 0 + upS l := by simp [upS]
    rw [e]
    refine ⟨by omega, ?_⟩
    constructor
    · intro h3 v
      have h4 := h2.1 (by omega) v
      unfold mget at h4 ⊢
      rw [mfind]
      split
      · show x ≤ 0; omega
      · exact h4
    · intro h3
      have hx := h3 k
      unfold mget at hx
      rw [mfind, if_pos rfl] at hx
      have hx : x ≤ 0 := hx
      have := h2.2 fun v => by
        by_cases hv : k = v
        · subst hv
          unfold mget
          rw [mfind_none h.1]
          exact Int.le_refl 0
        · have := h3 v
          unfold mget at this ⊢
          rw [mfind, if_neg hv] at this
          exact this
      omega
theorem dns_zero {l : List (Int × Int)} (h : ndk l) : 0 ≤ dnS l ∧ (dnS l = 0 ↔ ∀ v, 0 ≤ mget l v) := by
  induction l with
  | nil => exact ⟨by simp [dnS], by simp [dnS, mget, mfind]⟩
  | cons p l ih =>
    obtain ⟨k, x⟩ := p
    unfold ndk at h
    rw [List.map_cons, List.nodup_cons] at h
    obtain ⟨h1, h2⟩ := ih h.2
    have e : dnS ((k, x) :: l) = max (-x) 0 + dnS l := by simp [dnS]
    rw [e]
    refine ⟨by omega, ?_⟩
    constructor
    · intro h3 v
      have h4 := h2.1 (by omega) v
      unfold mget at h4 ⊢
      rw [mfind]
      split
      · show 0 ≤ x; omega
      · exact h4
    · intro h3
      have hx := h3 k
      unfold mget at hx
      rw [mfind, if_pos rfl] at hx
      have hx : 0 ≤ x := hx
      have := h2.2 fun v => by
        by_cases hv : k = v
        · subst hv
          unfold mget
          rw [mfind_none h.1]
          exact Int.le_refl 0
        · have := h3 v
          unfold mget at this ⊢
          rw [mfind, if_neg hv] at this
          exact this
      omega
structure Ss (s : Sc) (z : Int) (D : Int → Int) : Prop where
  sz : s.sz = z
  nd : ndk s.mp
  sp : s.sp = upS s.mp
  lk : s.lk = dnS s.mp
  at_ : ∀ v, mget s.mp v = D v
theorem Ss.addV {s : Sc} {z : Int} {D : Int → Int} (h : Ss s z D) (v σ : Int) : Ss (addVk s v σ) z (fun u => D u + if v = u then σ else 0) := by
  obtain ⟨h1, h2, h3⟩ := ndk_put h.nd v (mget s.mp v + σ)
  refine ⟨h.sz, h1, ?_, ?_, fun u => ?_⟩
  · show s.sp + _ = upS (mput _ _ _); rw [h2, h.sp]
  · show s.lk + _ = dnS (mput _ _ _); rw [h3, h.lk]
  · show mget (mput _ _ _) u = _
    rw [mget_put]
    split
    · rename_i e; subst e; rw [h.at_]
    · rw [h.at_]; omega
theorem addN_var {σ : Int} {s : Sc} {t : Tm} (h : t.f < 0) : addN σ s t = addVk ⟨s.sz + σ, s.mp, s.sp, s.lk⟩ (-1 - t.f) σ := if_pos h
theorem addN_sym {σ : Int} {s : Sc} {t : Tm} (h : ¬ t.f < 0) : addN σ s t = ⟨s.sz + σ, s.mp, s.sp, s.lk⟩ := if_neg h
theorem Ss.fold {σ : Int} : ∀ {l : List Tm} {s : Sc} {z : Int} {D : Int → Int}, Ss s z D → Ss (l.foldl (addN σ) s) (z + σ * l.length) (fun v => D v + σ * ((vsL l).count v : Int))
  | [], s, z, D, h => by
    refine ⟨by show s.sz = _; rw [h.sz]; simp, h.nd, h.sp, h.lk, fun v => ?_⟩
    show mget s.mp v = _
    rw [h.at_]; simp [vsL]
  | t :: l, s, z, D, h => by
    rw [List.foldl_cons]
    have h0 : Ss ⟨s.sz + σ, s.mp, s.sp, s.lk⟩ (z + σ) D := ⟨by show s.sz + σ = _; rw [h.sz], h.nd, h.sp, h.lk, h.at_⟩
    have e1 : σ * ((t :: l).length : Int) = σ + σ * (l.length : Int) := by
      rw [List.length_cons]; push_cast; rw [Int.mul_add]; omega
    by_cases hf : t.f < 0
    · have h1 := (h0.addV (-1 - t.f) σ).fold (σ := σ) (l := l)
      rw [addN_var hf]
      refine ⟨?_, h1.nd, h1.sp, h1.lk, fun v => ?_⟩
      · rw [h1.sz, e1]; omega
      · rw [h1.at_]
        have e2 : (vsL (t :: l)).count v = (if -1 - t.f = v then 1 else 0) + (vsL l).count v := by
          unfold vsL
          rw [List.filter_cons, if_pos (by simpa using hf), List.map_cons, List.count_cons]
          simp only [beq_iff_eq]
          omega
        rw [e2]
        split
        · push_cast; rw [Int.mul_add]; omega
        · push_cast; rw [Int.mul_add]; omega
    · have h1 := h0.fold (σ := σ) (l := l)
      rw [addN_sym hf]
      refine ⟨?_, h1.nd, h1.sp, h1.lk, fun v => ?_⟩
      · rw [h1.sz, e1]; omega
      · rw [h1.at_]
        have e2 : vsL (t :: l) = vsL l := by
          unfold vsL
          rw [List.filter_cons, if_neg (by simpa using hf)]
        rw [e2]
end Go.Proofs.Ytekboofbedakcaa
namespace Go.Proofs.Ytekboofbedakcaa
open Go.RowKit
set_option linter.unusedVariables false
set_option linter.unusedSimpArgs false
set_option maxRecDepth 100000
noncomputable def mrv (p : Int × Int) : CV := .row [.i p.1, .i p.2]
theorem mr_keysK (l : List (Int × Int)) : IntKeys .i64 (l.map mrv) := fun r hr => by
  obtain ⟨p, _, rfl⟩ := List.mem_map.1 hr
  exact ⟨p.1, .i p.2, rfl⟩
theorem mr_look (l : List (Int × Int)) (v : Int) : lookR .i64 v (l.map mrv) = (mfind l v).map CV.i := by
  induction l with
  | nil => rfl
  | cons p l ih =>
    obtain ⟨k, x⟩ := p
    rw [List.map_cons, mrv, lookR_row, mfind]
    split
    · rfl
    · exact ih
theorem mr_get (l : List (Int × Int)) (v : Int) : (lookR .i64 v (l.map mrv)).getD (.sc (.int .i64 0)) = .i (mget l v) := by
  rw [mr_look]
  unfold mget
  cases mfind l v <;> rfl
theorem mr_put (l : List (Int × Int)) (v y : Int) : putR .i64 v (.i y) (l.map mrv) = (mput l v y).map mrv := by
  induction l with
  | nil => rfl
  | cons p l ih =>
    obtain ⟨k, x⟩ := p
    rw [List.map_cons, mrv, putR_row, mput]
    split
    · rfl
    · rw [List.map_cons, ih]; rfl
noncomputable def mB (l : List (Int × Int)) : AV := ⟨if l = [] then 17 else 14, .lst (l.map mrv), 0, 0, []⟩
noncomputable abbrev sst (s : Sc) : AS := [(450001, .obj), (35500100, .val (.i s.sz)), (35500101, .mref 300001), (35500102, .val (.i s.sp)), (35500103, .val (.i s.lk)), (300001, mB s.mp)]
noncomputable abbrev sstN (z p k : Int) : AS := [(450001, .obj), (35500100, .val (.i z)), (35500101, .mref 300001), (35500102, .val (.i p)), (35500103, .val (.i k)), (300001, .nmap)]
noncomputable abbrev sstM (z : Int) (l : List (Int × Int)) (p k : Int) : AS := [(450001, .obj), (35500100, .val (.i z)), (35500101, .mref 300001), (35500102, .val (.i p)), (35500103, .val (.i k)), (300001, .mp (l.map mrv))]
theorem sst_N {s : Sc} (h : s.mp = []) : sst s = sstN s.sz s.sp s.lk := by simp only [sst, mB, h, if_true]; rfl
theorem sst_M {s : Sc} (h : s.mp ≠ []) : sst s = sstM s.sz s.mp s.sp s.lk := by simp only [sst, mB, if_neg h]
theorem sst_lend (s : Sc) : (sst s).all lendB = true := by
  by_cases h : s.mp = []
  · rw [sst_N h]; kernel_rfl
  · rw [sst_M h]; kernel_rfl
theorem sst_leave (s : Sc) : (sst s).all (leaveB (kO (sst s))) = true := by
  by_cases h : s.mp = []
  · rw [sst_N h]; kernel_rfl
  · rw [sst_M h]; kernel_rfl
structure Bds (s : Sc) (n : Nat) : Prop where
  sz : -(n : Int) ≤ s.sz ∧ s.sz ≤ n
  sp : -(n : Int) ≤ s.sp ∧ s.sp ≤ n
  lk : -(n : Int) ≤ s.lk ∧ s.lk ≤ n
  at_ : ∀ v, -(n : Int) ≤ mget s.mp v ∧ mget s.mp v ≤ n
theorem Bds.node {s : Sc} {n : Nat} {σ : Int} (h : Bds s n) (hσ : σ = 1 ∨ σ = -1) (t : Tm) : Bds (addN σ s t) (n + 1) := by
  obtain ⟨h1, h2, h3, h4⟩ := h
  unfold addN
  split
  · unfold addVk
    have := h4 (-1 - t.f)
    refine ⟨by show _ ≤ s.sz + σ ∧ s.sz + σ ≤ _; omega, by simp only; omega, by simp only; omega, fun v => ?_⟩
    simp only
    rw [mget_put]
    have := h4 v
    split <;> omega
  · exact ⟨by show _ ≤ s.sz + σ ∧ s.sz + σ ≤ _; omega, by simp only; omega, by simp only; omega, fun v => by have := h4 v; simp only; omega⟩
theorem Bds.fold {σ : Int} (hσ : σ = 1 ∨ σ = -1) : ∀ {l : List Tm} {s : Sc} {n : Nat}, Bds s n → Bds (l.foldl (addN σ) s) (n + l.length)
  | [], s, n, h => h
  | t :: l, s, n, h => by
    rw [List.foldl_cons, List.length_cons, show n + (l.length + 1) = n + 1 + l.length by omega]
    exact (h.node hσ t).fold hσ
theorem Bds.addL {σ : Int} (hσ : σ = 1 ∨ σ = -1) {l : List Tm} {s : Sc} {n : Nat} (h : Bds s n) : Bds (addL σ s l) (n + (l.flatMap Tm.flat).length) := h.fold hσ
theorem Bds.addT {σ : Int} (hσ : σ = 1 ∨ σ = -1) {t : Tm} {s : Sc} {n : Nat} (h : Bds s n) : Bds (addT σ s t) (n + t.size) := h.fold hσ

-- 
theorem kIsVar_abs (W : World) (t : Tm) : AFun Try.prog W 88 [t.cw] (.val (.b (decide (t.f < 0)))) := by
  refine afun_of (rs := [.b (decide (t.f < 0))]) Try.func88 Try.ntmps88 rfl rfl rfl rfl ?_
  intro w U hW
  refine aS (aR ?_)
  (refine nx (a_box (gN rfl) rfl rfl rfl rfl rfl) rfl ?_)
  (refine nx (aA (gN rfl) rfl rfl rfl rfl rfl) rfl ?_)
  show AWp _ _ _ _ _ _ _
  refine aS (aR ?_)
  (refine nx (aF (gN rfl) rfl rfl rfl rfl rfl rfl rfl rfl rfl) rfl ?_)
  (refine nx (aLb (gN rfl) rfl rfl rfl rfl rfl rfl rfl rfl rfl rfl rfl rfl) rfl ?_)
  (refine nx (a_lss (gN rfl) rfl rfl rfl rfl rfl rfl) rfl ?_)
  (refine nx (aA (gN rfl) rfl rfl rfl rfl rfl) rfl ?_)
  show AWp _ _ _ _ _ _ _
  exact aT ⟨.inr rfl, rfl⟩
-- 
theorem kNumber_abs (W : World) (t : Tm) (h1 : -9223372036854775808 ≤ t.f) (h2 : t.f < 0) : AFun Try.prog W 90 [t.cw] (.val (.i (-1 - t.f))) := by
  refine afun_of (rs := [.i (-1 - t.f)]) Try.func90 Try.ntmps90 rfl rfl rfl rfl ?_
  intro w U hW
  refine aS (aR ?_)
  (refine nx (a_box (gN rfl) rfl rfl rfl rfl rfl) rfl ?_)
  (refine nx (aA (gN rfl) rfl rfl rfl rfl rfl) rfl ?_)
  show AWp _ _ _ _ _ _ _
  refine aS (aR ?_)
  (refine nx (aF (gN rfl) rfl rfl rfl rfl rfl rfl rfl rfl rfl) rfl ?_)
  (refine nx (aLb (gN rfl) rfl rfl rfl rfl rfl rfl rfl rfl rfl rfl rfl rfl) rfl ?_)
  (refine nx (a_sub (gN rfl) rfl rfl rfl rfl rfl rfl (by first | omega | (simp only [List.length_map, List.length_append, List.length_cons, List.length_nil] <;> omega) | (simp <;> omega))) rfl ?_)
  (refine nx (aA (gN rfl) rfl rfl rfl rfl rfl) rfl ?_)
  show AWp _ _ _ _ _ _ _
  exact aT ⟨.inr rfl, rfl⟩
-- 
theorem kParts_abs (W : World) (t : Tm) : AFun Try.prog W 73 [t.cw] (.val (.lst (t.ps.map Tm.cv))) := by
  refine afun_of (rs := [.lst (t.ps.map Tm.cv)]) Try.func73 Try.ntmps73 rfl rfl rfl rfl ?_
  intro w U hW
  refine aS (aR ?_)
  (refine nx (a_box (gN rfl) rfl rfl rfl rfl rfl) rfl ?_)
  (refine nx (aA (gN rfl) rfl rfl rfl rfl rfl) rfl ?_)
  show AWp _ _ _ _ _ _ _
  refine aS (aS (aR ?_))
  (refine nx (aL (gN rfl) rfl rfl rfl rfl rfl rfl rfl rfl rfl rfl rfl rfl) rfl ?_)
  (refine nx (a_call (gN rfl) rfl rfl rfl rfl rfl (kIsVar_abs w t)) rfl ?_)
  show AWp _ _ _ _ _ _ _
  refine aC rfl (fun hc => ?_) (fun hc => ?_)
  · have hf : t.f < 0 := by simpa using hc
    rw [Tm.ps_of_var hf]
    refine aS (aR ?_)
    (refine nx (aA (gN rfl) rfl rfl rfl rfl rfl) rfl ?_)
    show AWp _ _ _ _ _ _ _
    exact aT ⟨.inr rfl, rfl⟩
  · have hf : ¬ t.f < 0 := by simpa using hc
    rw [Tm.ps_of_sym (by omega)]
    refine aK ?_
    show AWp _ _ _ _ _ _ _
    refine aS (aR ?_)
    (refine nx (aF (gN rfl) rfl rfl rfl rfl rfl rfl rfl rfl rfl) rfl ?_)
    (refine nx (aLb (gN rfl) rfl rfl rfl rfl rfl rfl rfl rfl rfl rfl rfl rfl) rfl ?_)
    (refine nx (aA (gN rfl) rfl rfl rfl rfl rfl) rfl ?_)
    show AWp _ _ _ _ _ _ _
    exact aT ⟨.inr rfl, rfl⟩
-- 
theorem kAddVarN_abs (s : Sc) (n : Nat) (hb : Bds s n) (hn : n ≤ 1000000000000) (v σ : Int) (hσ : σ = 1 ∨ σ = -1) (hm : s.mp = []) : AFunO Try.prog 89 (sstN s.sz s.sp s.lk) [.bp 350001 0 [], .val (.i v), .val (.i σ)] (.tup []) (sstM s.sz (addVk s v σ).mp (addVk s v σ).sp (addVk s v σ).lk) := by
  have hb2 := hb.sp
  have hb3 := hb.lk
  have hb4 := hb.at_ v
  have hg : mget [] v = mget s.mp v := by rw [hm]
  obtain ⟨was, hwas⟩ : ∃ was, was = mget s.mp v := ⟨_, rfl⟩
  rw [← hwas] at hb4
  refine afunO_of Try.func89 Try.ntmps89 rfl rfl rfl rfl rfl rfl ?_
  intro w U hU
  refine aS (aS (aR ?_))
  (refine nx (aM (gN rfl) rfl rfl rfl rfl rfl) rfl ?_)
  (refine nx (aNc (gN rfl) rfl rfl rfl rfl rfl) rfl ?_)
  (refine nx (aF (gN rfl) rfl rfl rfl rfl rfl rfl rfl rfl rfl) rfl ?_)
  (refine nx (aLf (gN rfl) rfl rfl rfl rfl rfl rfl rfl rfl rfl rfl rfl rfl rfl) rfl ?_)
  (refine nx (a_mref_isnil (gN rfl) rfl rfl rfl rfl rfl rfl rfl) rfl ?_)
  show AWp _ _ _ _ _ _ _
  refine aC rfl (fun hc => ?_) (fun hc => by cases hc)
  refine aR ?_
  (refine nx (aM (gN rfl) rfl rfl rfl rfl rfl) rfl ?_)
  (refine nx (a_mkmap 300002 (gN rfl) rfl rfl rfl rfl rfl) (by kernel_rfl) ?_)
  (refine nx (aNc (gN rfl) rfl rfl rfl rfl rfl) rfl ?_)
  (refine nx (aF (gN rfl) rfl rfl rfl rfl rfl rfl rfl rfl rfl) rfl ?_)
  (refine nx (a_store_fld (gN rfl) rfl rfl rfl rfl rfl rfl rfl rfl rfl rfl rfl rfl) rfl ?_)
  show AWp _ _ _ _ _ _ _
  refine aS (aR ?_)
  (refine nx (aM (gN rfl) rfl rfl rfl rfl rfl) rfl ?_)
  (refine nx (aNc (gN rfl) rfl rfl rfl rfl rfl) rfl ?_)
  (refine nx (aF (gN rfl) rfl rfl rfl rfl rfl rfl rfl rfl rfl) rfl ?_)
  (refine nx (aLf (gN rfl) rfl rfl rfl rfl rfl rfl rfl rfl rfl rfl rfl rfl rfl) rfl ?_)
  (refine nx (aM (gN rfl) rfl rfl rfl rfl rfl) rfl ?_)
  (refine nx (a_lookup1 (gN rfl) rfl rfl rfl rfl rfl rfl rfl rfl rfl rfl rfl ( mr_keysK [])) rfl ?_)
  (refine nx (aA (gN rfl) rfl rfl rfl rfl rfl) rfl ?_)
  show AWp _ _ _ _ _ _ _
  refine AWp.wk (wk_sub (s' := [(0, AV.bp 350001 0 []), (1, .val (.i v)), (2, .val (.i σ)), (6, .val (.i was)), (450001, .obj), (35500100, .val (.i s.sz)), (35500101, .mref 300002), (35500102, .val (.i s.sp)), (35500103, .val (.i s.lk)), (300002, .mp (([] : List (Int × Int)).map mrv))]) ⟨rfl, rfl, rfl, ?_, rfl, rfl, rfl, rfl, rfl, rfl, trivial⟩) ?_
  · rw [hwas, ← hg]; rfl
  refine aS (aR ?_)
  (refine nx (aM (gN rfl) rfl rfl rfl rfl rfl) rfl ?_)
  (refine nx (aM (gN rfl) rfl rfl rfl rfl rfl) rfl ?_)
  (refine nx (a_add (gN rfl) rfl rfl rfl rfl rfl rfl (by first | omega | (simp only [List.length_map, List.length_append, List.length_cons, List.length_nil] <;> omega) | (simp <;> omega))) rfl ?_)
  (refine nx (aA (gN rfl) rfl rfl rfl rfl rfl) rfl ?_)
  show AWp _ _ _ _ _ _ _
  refine aS (aR ?_)
  (refine nx (aM (gN rfl) rfl rfl rfl rfl rfl) rfl ?_)
  (refine nx (aNc (gN rfl) rfl rfl rfl rfl rfl) rfl ?_)
  (refine nx (aF (gN rfl) rfl rfl rfl rfl rfl rfl rfl rfl rfl) rfl ?_)
  (refine nx (aLf (gN rfl) rfl rfl rfl rfl rfl rfl rfl rfl rfl rfl rfl rfl rfl) rfl ?_)
  (refine nx (aM (gN rfl) rfl rfl rfl rfl rfl) rfl ?_)
  (refine nx (aM (gN rfl) rfl rfl rfl rfl rfl) rfl ?_)
  (refine nx (a_mapup (gN rfl) rfl rfl rfl rfl rfl rfl rfl rfl (mr_keysK [])) rfl ?_)
  show AWp _ _ _ _ _ _ _
  refine aS (aR ?_)
  (refine nx (aM (gN rfl) rfl rfl rfl rfl rfl) rfl ?_)
  (refine nx (aNc (gN rfl) rfl rfl rfl rfl rfl) rfl ?_)
  (refine nx (aF (gN rfl) rfl rfl rfl rfl rfl rfl rfl rfl rfl) rfl ?_)
  (refine nx (aLf (gN rfl) rfl rfl rfl rfl rfl rfl rfl rfl rfl rfl rfl rfl rfl) rfl ?_)
  (refine nx (aM (gN rfl) rfl rfl rfl rfl rfl) rfl ?_)
  (refine nx (a_max (gN rfl) rfl rfl rfl rfl rfl rfl) rfl ?_)
  (refine nx (aM (gN rfl) rfl rfl rfl rfl rfl) rfl ?_)
  (refine nx (a_max (gN rfl) rfl rfl rfl rfl rfl rfl) rfl ?_)
  (refine nx (a_sub (gN rfl) rfl rfl rfl rfl rfl rfl (by first | omega | (simp only [List.length_map, List.length_append, List.length_cons, List.length_nil] <;> omega) | (simp <;> omega))) rfl ?_)
  (refine nx (a_add (gN rfl) rfl rfl rfl rfl rfl rfl (by first | omega | (simp only [List.length_map, List.length_append, List.length_cons, List.length_nil] <;> omega) | (simp <;> omega))) rfl ?_)
  (refine nx (aNc (gN rfl) rfl rfl rfl rfl rfl) rfl ?_)
  (refine nx (aF (gN rfl) rfl rfl rfl rfl rfl rfl rfl rfl rfl) rfl ?_)
  (refine nx (a_store_fld (gN rfl) rfl rfl rfl rfl rfl rfl rfl rfl rfl rfl rfl rfl) rfl ?_)
  show AWp _ _ _ _ _ _ _
  refine aR ?_
  (refine nx (aM (gN rfl) rfl rfl rfl rfl rfl) rfl ?_)
  (refine nx (aNc (gN rfl) rfl rfl rfl rfl rfl) rfl ?_)
  (refine nx (aF (gN rfl) rfl rfl rfl rfl rfl rfl rfl rfl rfl) rfl ?_)
  (refine nx (aLf (gN rfl) rfl rfl rfl rfl rfl rfl rfl rfl rfl rfl rfl rfl rfl) rfl ?_)
  (refine nx (aM (gN rfl) rfl rfl rfl rfl rfl) rfl ?_)
  (refine nx (a_neg (gN rfl) rfl rfl rfl rfl rfl (by first | omega | (constructor <;> omega))) rfl ?_)
  (refine nx (a_max (gN rfl) rfl rfl rfl rfl rfl rfl) rfl ?_)
  (refine nx (aM (gN rfl) rfl rfl rfl rfl rfl) rfl ?_)
  (refine nx (a_neg (gN rfl) rfl rfl rfl rfl rfl (by first | omega | (constructor <;> omega))) rfl ?_)
  (refine nx (a_max (gN rfl) rfl rfl rfl rfl rfl rfl) rfl ?_)
  (refine nx (a_sub (gN rfl) rfl rfl rfl rfl rfl rfl (by first | omega | (simp only [List.length_map, List.length_append, List.length_cons, List.length_nil] <;> omega) | (simp <;> omega))) rfl ?_)
  (refine nx (a_add (gN rfl) rfl rfl rfl rfl rfl rfl (by first | omega | (simp only [List.length_map, List.length_append, List.length_cons, List.length_nil] <;> omega) | (simp <;> omega))) rfl ?_)
  (refine nx (aNc (gN rfl) rfl rfl rfl rfl rfl) rfl ?_)
  (refine nx (aF (gN rfl) rfl rfl rfl rfl rfl rfl rfl rfl rfl) rfl ?_)
  (refine nx (a_store_fld (gN rfl) rfl rfl rfl rfl rfl rfl rfl rfl rfl rfl rfl rfl) rfl ?_)
  refine ⟨.inl rfl, _, (wk_sub (s' := [(450001, .obj), (35500100, .val (.i s.sz)), (35500101, .mref 300002), (35500102, .val (.i (addVk s v σ).sp)), (35500103, .val (.i (addVk s v σ).lk)), (300002, .mp ((addVk s v σ).mp.map mrv))]) ⟨rfl, rfl, rfl, ?_, ?_, ?_, trivial⟩).trans (wk_ren 300002 300001 rfl rfl (by kernel_rfl) (by kernel_rfl)), rfl, rfl, rfl, rfl, rfl, rfl, rfl, trivial⟩
  · unfold addVk; rw [← hwas]; rfl
  · unfold addVk; rw [← hwas]; rfl
  · unfold addVk
    simp only
    rw [← hwas, hm, ← mr_put]
    rfl
-- 
theorem kAddVarM_abs (s : Sc) (n : Nat) (hb : Bds s n) (hn : n ≤ 1000000000000) (v σ : Int) (hσ : σ = 1 ∨ σ = -1) : AFunO Try.prog 89 (sstM s.sz s.mp s.sp s.lk) [.bp 350001 0 [], .val (.i v), .val (.i σ)] (.tup []) (sstM s.sz (addVk s v σ).mp (addVk s v σ).sp (addVk s v σ).lk) := by
  have hb2 := hb.sp
  have hb3 := hb.lk
  have hb4 := hb.at_ v
  obtain ⟨was, hwas⟩ : ∃ was, was = mget s.mp v := ⟨_, rfl⟩
  rw [← hwas] at hb4
  refine afunO_of Try.func89 Try.ntmps89 rfl rfl rfl rfl rfl rfl ?_
  intro w U hU
  refine aS (aS (aR ?_))
  (refine nx (aM (gN rfl) rfl rfl rfl rfl rfl) rfl ?_)
  (refine nx (aNc (gN rfl) rfl rfl rfl rfl rfl) rfl ?_)
  (refine nx (aF (gN rfl) rfl rfl rfl rfl rfl rfl rfl rfl rfl) rfl ?_)
  (refine nx (aLf (gN rfl) rfl rfl rfl rfl rfl rfl rfl rfl rfl rfl rfl rfl rfl) rfl ?_)
  (refine nx (a_mref_nil (gN rfl) rfl rfl rfl rfl rfl rfl rfl) rfl ?_)
  show AWp _ _ _ _ _ _ _
  refine aC rfl (fun hc => by cases hc) (fun hc => ?_)
  refine aK ?_
  show AWp _ _ _ _ _ _ _
  refine aS (aR ?_)
  (refine nx (aM (gN rfl) rfl rfl rfl rfl rfl) rfl ?_)
  (refine nx (aNc (gN rfl) rfl rfl rfl rfl rfl) rfl ?_)
  (refine nx (aF (gN rfl) rfl rfl rfl rfl rfl rfl rfl rfl rfl) rfl ?_)
  (refine nx (aLf (gN rfl) rfl rfl rfl rfl rfl rfl rfl rfl rfl rfl rfl rfl rfl) rfl ?_)
  (refine nx (aM (gN rfl) rfl rfl rfl rfl rfl) rfl ?_)
  (refine nx (a_lookup1 (gN rfl) rfl rfl rfl rfl rfl rfl rfl rfl rfl rfl rfl ( mr_keysK _)) rfl ?_)
  (refine nx (aA (gN rfl) rfl rfl rfl rfl rfl) rfl ?_)
  show AWp _ _ _ _ _ _ _
  refine AWp.wk (wk_sub (s' := [(0, AV.bp 350001 0 []), (1, .val (.i v)), (2, .val (.i σ)), (6, .val (.i was)), (450001, .obj), (35500100, .val (.i s.sz)), (35500101, .mref 300001), (35500102, .val (.i s.sp)), (35500103, .val (.i s.lk)), (300001, .mp (s.mp.map mrv))]) ⟨rfl, rfl, rfl, ?_, rfl, rfl, rfl, rfl, rfl, rfl, trivial⟩) ?_
  · rw [hwas, ← mr_get]; rfl
  refine aS (aR ?_)
  (refine nx (aM (gN rfl) rfl rfl rfl rfl rfl) rfl ?_)
  (refine nx (aM (gN rfl) rfl rfl rfl rfl rfl) rfl ?_)
  (refine nx (a_add (gN rfl) rfl rfl rfl rfl rfl rfl (by first | omega | (simp only [List.length_map, List.length_append, List.length_cons, List.length_nil] <;> omega) | (simp <;> omega))) rfl ?_)
  (refine nx (aA (gN rfl) rfl rfl rfl rfl rfl) rfl ?_)
  show AWp _ _ _ _ _ _ _
  refine aS (aR ?_)
  (refine nx (aM (gN rfl) rfl rfl rfl rfl rfl) rfl ?_)
  (refine nx (aNc (gN rfl) rfl rfl rfl rfl rfl) rfl ?_)
  (refine nx (aF (gN rfl) rfl rfl rfl rfl rfl rfl rfl rfl rfl) rfl ?_)
  (refine nx (aLf (gN rfl) rfl rfl rfl rfl rfl rfl rfl rfl rfl rfl rfl rfl rfl) rfl ?_)
  (refine nx (aM (gN rfl) rfl rfl rfl rfl rfl) rfl ?_)
  (refine nx (aM (gN rfl) rfl rfl rfl rfl rfl) rfl ?_)
  (refine nx (a_mapup (gN rfl) rfl rfl rfl rfl rfl rfl rfl rfl (mr_keysK _)) rfl ?_)
  show AWp _ _ _ _ _ _ _
  refine aS (aR ?_)
  (refine nx (aM (gN rfl) rfl rfl rfl rfl rfl) rfl ?_)
  (refine nx (aNc (gN rfl) rfl rfl rfl rfl rfl) rfl ?_)
  (refine nx (aF (gN rfl) rfl rfl rfl rfl rfl rfl rfl rfl rfl) rfl ?_)
  (refine nx (aLf (gN rfl) rfl rfl rfl rfl rfl rfl rfl rfl rfl rfl rfl rfl rfl) rfl ?_)
  (refine nx (aM (gN rfl) rfl rfl rfl rfl rfl) rfl ?_)
  (refine nx (a_max (gN rfl) rfl rfl rfl rfl rfl rfl) rfl ?_)
  (refine nx (aM (gN rfl) rfl rfl rfl rfl rfl) rfl ?_)
  (refine nx (a_max (gN rfl) rfl rfl rfl rfl rfl rfl) rfl ?_)
  (refine nx (a_sub (gN rfl) rfl rfl rfl rfl rfl rfl (by first | omega | (simp only [List.length_map, List.length_append, List.length_cons, List.length_nil] <;> omega) | (simp <;> omega))) rfl ?_)
  (refine nx (a_add (gN rfl) rfl rfl rfl rfl rfl rfl (by first | omega | (simp only [List.length_map, List.length_append, List.length_cons, List.length_nil] <;> omega) | (simp <;> omega))) rfl ?_)
  (refine nx (aNc (gN rfl) rfl rfl rfl rfl rfl) rfl ?_)
  (refine nx (aF (gN rfl) rfl rfl rfl rfl rfl rfl rfl rfl rfl) rfl ?_)
  (refine nx (a_store_fld (gN rfl) rfl rfl rfl rfl rfl rfl rfl rfl rfl rfl rfl rfl) rfl ?_)
  show AWp _ _ _ _ _ _ _
  refine aR ?_
  (refine nx (aM (gN rfl) rfl rfl rfl rfl rfl) rfl ?_)
  (refine nx (aNc (gN rfl) rfl rfl rfl rfl rfl) rfl ?_)
  (refine nx (aF (gN rfl) rfl rfl rfl rfl rfl rfl rfl rfl rfl) rfl ?_)
  (refine nx (aLf (gN rfl) rfl rfl rfl rfl rfl rfl rfl rfl rfl rfl rfl rfl rfl) rfl ?_)
  (refine nx (aM (gN rfl) rfl rfl rfl rfl rfl) rfl ?_)
  (refine nx (a_neg (gN rfl) rfl rfl rfl rfl rfl (by first | omega | (constructor <;> omega))) rfl ?_)
  (refine nx (a_max (gN rfl) rfl rfl rfl rfl rfl rfl) rfl ?_)
  (refine nx (aM (gN rfl) rfl rfl rfl rfl rfl) rfl ?_)
  (refine nx (a_neg (gN rfl) rfl rfl rfl rfl rfl (by first | omega | (constructor <;> omega))) rfl ?_)
  (refine nx (a_max (gN rfl) rfl rfl rfl rfl rfl rfl) rfl ?_)
  (refine nx (a_sub (gN rfl) rfl rfl rfl rfl rfl rfl (by first | omega | (simp only [List.length_map, List.length_append, List.length_cons, List.length_nil] <;> omega) | (simp <;> omega))) rfl ?_)
  (refine nx (a_add (gN rfl) rfl rfl rfl rfl rfl rfl (by first | omega | (simp only [List.length_map, List.length_append, List.length_cons, List.length_nil] <;> omega) | (simp <;> omega))) rfl ?_)
  (refine nx (aNc (gN rfl) rfl rfl rfl rfl rfl) rfl ?_)
  (refine nx (aF (gN rfl) rfl rfl rfl rfl rfl rfl rfl rfl rfl) rfl ?_)
  (refine nx (a_store_fld (gN rfl) rfl rfl rfl rfl rfl rfl rfl rfl rfl rfl rfl rfl) rfl ?_)
  refine ⟨.inl rfl, _, (wk_sub (s' := sstM s.sz (addVk s v σ).mp (addVk s v σ).sp (addVk s v σ).lk) ⟨rfl, rfl, rfl, ?_, ?_, ?_, trivial⟩), rfl, rfl, rfl, rfl, rfl, rfl, rfl, trivial⟩
  · unfold addVk; rw [← hwas]; rfl
  · unfold addVk; rw [← hwas]; rfl
  · unfold addVk
    simp only
    rw [← hwas, ← mr_put]
    rfl
theorem kAddVar_abs (s : Sc) (n : Nat) (hb : Bds s n) (hn : n ≤ 1000000000000) (v σ : Int) (hσ : σ = 1 ∨ σ = -1) : AFunO Try.prog 89 (sst s) [.bp 350001 0 [], .val (.i v), .val (.i σ)] (.tup []) (sst (addVk s v σ)) := by
  rw [sst_M (s := addVk s v σ) (mput_ne _ _ _)]
  by_cases h : s.mp = []
  · rw [sst_N h]; exact kAddVarN_abs s n hb hn v σ hσ h
  · rw [sst_M h]; exact kAddVarM_abs s n hb hn v σ hσ
def KAdd (σ : Int) (t : Tm) : Prop := ∀ (s : Sc) (n : Nat), Bds s n → n + t.size ≤ 1000000000000 → AFunO Try.prog 74 (sst s) [.bp 350001 0 [], .val t.cw, .val (.i σ)] (.tup []) (sst (addT σ s t))
-- 
theorem kAddAll_of (σ : Int) (hσ : σ = 1 ∨ σ = -1) (l : List Tm) (hl : l.length ≤ 1000000000000) (ih : ∀ t ∈ l, KAdd σ t) (s : Sc) (n : Nat) (hb : Bds s n) (hn : n + (l.flatMap Tm.flat).length ≤ 1000000000000) : AFunO Try.prog 77 (sst s) [.bp 350001 0 [], .val (.lst (l.map Tm.cv)), .val (.i σ)] (.tup []) (sst (addL σ s l)) := by
  have hsz := Tm.size_all l
  refine afunO_of Try.func77 Try.ntmps77 rfl rfl rfl rfl rfl rfl ?_
  intro w U hU
  refine aS (aR ?_)
  (refine nx (aM (gN rfl) rfl rfl rfl rfl rfl) rfl ?_)
  (refine nx (a_len (gN rfl) rfl rfl rfl rfl rfl rfl rfl) rfl ?_)
  (refine nx (aM (gN rfl) rfl rfl rfl rfl rfl) rfl ?_)
  show AWp _ _ _ _ _ _ _
  refine aB (awp_count l.length (fun k => (0, .bp 350001 0 []) :: (2, .val (.i σ)) :: (8, .val (.lst (l.map Tm.cv))) :: (9, .val (.i (l.map Tm.cv).length)) :: (10, .val (.i k)) :: sst (addL σ s (l.take k))) (wk_sub ⟨rfl, rfl, rfl, rfl, rfl, rfl, rfl, rfl, rfl, rfl, rfl, trivial⟩) ?_)
  intro k hk
  refine aS (aR ?_)
  (refine nx (a_lss (gN rfl) rfl rfl rfl rfl rfl rfl) rfl ?_)
  show AWp _ _ _ _ _ _ _
  refine aS (aC rfl (fun hlt => ?_) (fun hlt => ?_))
  · have hkl : k < l.length := by simpa using hlt
    obtain ⟨x, hx⟩ : ∃ x, l[k]? = some x := ⟨l[k], List.getElem?_eq_getElem hkl⟩
    have hx' := Tm.map_at hx
    have hxm := List.mem_of_getElem? hx
    obtain ⟨sk, hsk⟩ : ∃ sk, sk = addL σ s (l.take k) := ⟨_, rfl⟩
    have hbk : Bds sk (n + ((l.take k).flatMap Tm.flat).length) := by rw [hsk]; exact hb.addL hσ
    have hnk : n + ((l.take k).flatMap Tm.flat).length + x.size ≤ 1000000000000 := by
      have h2 : (l.flatMap Tm.flat).length = ((l.take k).flatMap Tm.flat).length + ((l.drop k).flatMap Tm.flat).length := by
        conv => lhs; rw [← List.take_append_drop k l]
        rw [List.flatMap_append, List.length_append]
      have h3 : x.flat.length ≤ ((l.drop k).flatMap Tm.flat).length := flatMap_len_mem Tm.flat (List.mem_of_getElem? (i := 0) (by rw [List.getElem?_drop]; simpa using hx))
      unfold Tm.size
      omega
    have hstep := addL_take (σ := σ) (s := s) hx
    rw [← hsk] at hstep
    rw [← hsk]
    refine aK ?_
    show AWp _ _ _ _ _ _ _
    refine aS (aB (aS (aR ?_)))
    (refine nx (a_index (j := k) (gN rfl) rfl rfl rfl rfl rfl rfl rfl rfl rfl (hx') rfl (hsz)) rfl ?_)
    (refine nx (a_load_ad (gN rfl) rfl rfl rfl rfl rfl rfl rfl rfl rfl) rfl ?_)
    (refine nx (a_alloc (gN rfl) rfl rfl rfl rfl rfl rfl rfl rfl rfl rfl) (by kernel_rfl) ?_)
    (refine nx (aSt (gN rfl) rfl rfl rfl rfl rfl rfl rfl rfl rfl rfl) rfl ?_)
    show AWp _ _ _ _ _ _ _
    refine aR ?_
    (refine nx (aM (gN rfl) rfl rfl rfl rfl rfl) rfl ?_)
    (refine nx (aL (gN rfl) rfl rfl rfl rfl rfl rfl rfl rfl rfl rfl rfl rfl) rfl ?_)
    (refine nx (aM (gN rfl) rfl rfl rfl rfl rfl) rfl ?_)
    (refine nx (a_callO (gN rfl) rfl rfl rfl rfl rfl (ih x hxm sk _ hbk hnk) (by repeat (first | exact trivial | refine ⟨rfl, ?_⟩)) (sst_lend _) (sst_leave _) (by first | rfl | kernel_rfl) (by first | rfl | kernel_rfl) (hnb_of (by first | rfl | kernel_rfl))) rfl ?_)
    show AWp _ _ _ _ _ _ _
    refine aR ?_
    (refine nx (a_add (gN rfl) rfl rfl rfl rfl rfl rfl (by first | omega | (simp only [List.length_map, List.length_append, List.length_cons, List.length_nil] <;> omega) | (simp <;> omega))) rfl ?_)
    (refine nx (aM (gN rfl) rfl rfl rfl rfl rfl) rfl ?_)
    refine ⟨hkl, wk_sub ⟨rfl, rfl, rfl, rfl, rfl, rfl, ?_, rfl, ?_, ?_, ?_, trivial⟩⟩
    all_goals (rw [hstep]; rfl)
  · have hkl : k = l.length := by
      have : ¬ k < l.length := by simpa using hlt
      omega
    subst hkl
    rw [List.take_length]
    refine aE ?_
    exact ⟨.inl rfl, _, Wk.refl _, rfl, rfl, rfl, rfl, rfl, rfl, rfl, trivial⟩
-- 
theorem kAdd_abs (σ : Int) (hσ : σ = 1 ∨ σ = -1) : ∀ t : Tm, t.rng → t.ok → KAdd σ t := by
  intro t
  induction t using Tm.ind with
  | h f l ih =>
  intro hr hok s n hb hn
  have hok := (Tm.ok_iff _).1 hok
  have hr := (Tm.rng_iff _).1 hr
  simp only at hok hr
  have hb1 := hb.sz
  have hsp := Tm.size_pos ⟨f, l⟩
  refine afunO_of Try.func74 Try.ntmps74 rfl rfl rfl rfl rfl rfl ?_
  intro w U hU
  refine aS (aR ?_)
  (refine nx (a_box (gN rfl) rfl rfl rfl rfl rfl) (by kernel_rfl) ?_)
  show AWp _ _ _ _ _ _ _
  refine aS (aR ?_)
  (refine nx (aM (gN rfl) rfl rfl rfl rfl rfl) rfl ?_)
  (refine nx (aNc (gN rfl) rfl rfl rfl rfl rfl) rfl ?_)
  (refine nx (aF (gN rfl) rfl rfl rfl rfl rfl rfl rfl rfl rfl) rfl ?_)
  (refine nx (aLf (gN rfl) rfl rfl rfl rfl rfl rfl rfl rfl rfl rfl rfl rfl rfl) rfl ?_)
  (refine nx (aM (gN rfl) rfl rfl rfl rfl rfl) rfl ?_)
  (refine nx (a_add (gN rfl) rfl rfl rfl rfl rfl rfl (by first | omega | (simp only [List.length_map, List.length_append, List.length_cons, List.length_nil] <;> omega) | (simp <;> omega))) rfl ?_)
  (refine nx (aNc (gN rfl) rfl rfl rfl rfl rfl) rfl ?_)
  (refine nx (aF (gN rfl) rfl rfl rfl rfl rfl rfl rfl rfl rfl) rfl ?_)
  (refine nx (a_store_fld (gN rfl) rfl rfl rfl rfl rfl rfl rfl rfl rfl rfl rfl rfl) rfl ?_)
  show AWp _ _ _ _ _ _ _
  obtain ⟨s1, hs1⟩ : ∃ s1 : Sc, s1 = ⟨s.sz + σ, s.mp, s.sp, s.lk⟩ := ⟨_, rfl⟩
  have hb' : Bds s1 (n + 1) := by
    obtain ⟨b1, b2, b3, b4⟩ := hb
    rw [hs1]
    exact ⟨by show _ ≤ s.sz + σ ∧ s.sz + σ ≤ _; omega, by simp only; omega, by simp only; omega, fun v => by have := b4 v; simp only; omega⟩
  refine AWp.wk (wk_sub (s' := (0, AV.bp 350001 0 []) :: (2, .val (.i σ)) :: (4, .bp 4 0 []) :: (100004, .bx (Tm.cw ⟨f, l⟩)) :: sst s1) ⟨rfl, rfl, rfl, rfl, rfl, ?_, rfl, ?_, ?_, ?_, trivial⟩) ?_
  · rw [hs1]; rfl
  · rw [hs1]; rfl
  · rw [hs1]; rfl
  · rw [hs1]; rfl
  refine aS (aS (aR ?_))
  (refine nx (aL (gN rfl) rfl rfl rfl rfl rfl rfl rfl rfl rfl rfl rfl rfl) rfl ?_)
  (refine nx (a_call (gN rfl) rfl rfl rfl rfl rfl (kIsVar_abs w ⟨f, l⟩)) rfl ?_)
  show AWp _ _ _ _ _ _ _
  refine aC rfl (fun hc => ?_) (fun hc => ?_)
  · have hf : f < 0 := by simpa using hc
    rw [addT_var (t := ⟨f, l⟩) hf, ← hs1]
    refine aS (aR ?_)
    (refine nx (aM (gN rfl) rfl rfl rfl rfl rfl) rfl ?_)
    (refine nx (aL (gN rfl) rfl rfl rfl rfl rfl rfl rfl rfl rfl rfl rfl rfl) rfl ?_)
    (refine nx (a_call (gN rfl) rfl rfl rfl rfl rfl (kNumber_abs w ⟨f, l⟩ hr.1.1 hf)) rfl ?_)
    (refine nx (aM (gN rfl) rfl rfl rfl rfl rfl) rfl ?_)
    (refine nx (a_callO (gN rfl) rfl rfl rfl rfl rfl (kAddVar_abs s1 (n + 1) hb' (by omega) (-1 - f) σ hσ) (by repeat (first | exact trivial | refine ⟨rfl, ?_⟩)) (sst_lend _) (sst_leave _) (by first | rfl | kernel_rfl) (by first | rfl | kernel_rfl) (hnb_of (by first | rfl | kernel_rfl))) rfl ?_)
    show AWp _ _ _ _ _ _ _
    exact aT ⟨.inr rfl, _, Wk.refl _, rfl, rfl, rfl, rfl, rfl, rfl, rfl, trivial⟩
  · have hf : ¬ f < 0 := by simpa using hc
    rw [addT_sym (t := ⟨f, l⟩) hf, ← hs1]
    have hse := Tm.size_eq ⟨f, l⟩
    rw [Tm.ps_of_sym (t := ⟨f, l⟩) (by show 0 ≤ f; omega)] at hse
    simp only at hse
    have hlen := Tm.len_ps ⟨f, l⟩
    rw [Tm.ps_of_sym (t := ⟨f, l⟩) (by show 0 ≤ f; omega)] at hlen
    simp only at hlen
    refine aK ?_
    show AWp _ _ _ _ _ _ _
    refine aR ?_
    (refine nx (aM (gN rfl) rfl rfl rfl rfl rfl) rfl ?_)
    (refine nx (aF (gN rfl) rfl rfl rfl rfl rfl rfl rfl rfl rfl) rfl ?_)
    (refine nx (aLb (gN rfl) rfl rfl rfl rfl rfl rfl rfl rfl rfl rfl rfl rfl) rfl ?_)
    (refine nx (aM (gN rfl) rfl rfl rfl rfl rfl) rfl ?_)
    (refine nx (a_callO (gN rfl) rfl rfl rfl rfl rfl (kAddAll_of σ hσ l (by omega) (fun t ht => ih t ht (hr.2 t ht) (hok.2 t ht)) s1 (n + 1) hb' (by omega)) (by repeat (first | exact trivial | refine ⟨rfl, ?_⟩)) (sst_lend _) (sst_leave _) (by first | rfl | kernel_rfl) (by first | rfl | kernel_rfl) (hnb_of (by first | rfl | kernel_rfl))) rfl ?_)
    exact ⟨.inl rfl, _, Wk.refl _, rfl, rfl, rfl, rfl, rfl, rfl, rfl, trivial⟩
theorem kAddAll_abs (σ : Int) (hσ : σ = 1 ∨ σ = -1) (l : List Tm) (hl : l.length ≤ 1000000000000) (hr : ∀ t ∈ l, t.rng ∧ t.ok) (s : Sc) (n : Nat) (hb : Bds s n) (hn : n + (l.flatMap Tm.flat).length ≤ 1000000000000) : AFunO Try.prog 77 (sst s) [.bp 350001 0 [], .val (.lst (l.map Tm.cv)), .val (.i σ)] (.tup []) (sst (addL σ s l)) :=
  kAddAll_of σ hσ l hl (fun t ht => kAdd_abs σ hσ t (hr t ht).1 (hr t ht).2) s n hb hn

def ordS (s : Sc) (w : Int) : Int := if s.sz ≠ 0 then cmpZ s.sz 0 else w
def vdS (s : Sc) (w : Int) : Int := if (ordS s w = 1 ∧ 0 < s.lk) ∨ (ordS s w = -1 ∧ 0 < s.sp) then 2 else ordS s w
-- 
theorem kVerdict_abs (s : Sc) (x : Int) : AFunO Try.prog 75 (sst s) [.bp 350001 0 [], .val (.i x)] (.val (.i (vdS s x))) (sst s) := by
  refine afunO_of Try.func75 Try.ntmps75 rfl rfl rfl rfl rfl rfl ?_
  intro w U hU
  refine aS (aR ?_)
  (refine nx (aA (gN rfl) rfl rfl rfl rfl rfl) rfl ?_)
  show AWp _ _ _ _ _ _ _
  refine aS (aR ?_)
  (refine nx (aM (gN rfl) rfl rfl rfl rfl rfl) rfl ?_)
  (refine nx (aA (gN rfl) rfl rfl rfl rfl rfl) rfl ?_)
  show AWp _ _ _ _ _ _ _
  refine awp_mid ((0, AV.bp 350001 0 []) :: (5, .val (.i (ordS s x))) :: sst s) ?_ ?_
  · unfold ordS
    refine aS (aR ?_)
    (refine nx (aM (gN rfl) rfl rfl rfl rfl rfl) rfl ?_)
    (refine nx (aNc (gN rfl) rfl rfl rfl rfl rfl) rfl ?_)
    (refine nx (aF (gN rfl) rfl rfl rfl rfl rfl rfl rfl rfl rfl) rfl ?_)
    (refine nx (aLf (gN rfl) rfl rfl rfl rfl rfl rfl rfl rfl rfl rfl rfl rfl rfl) rfl ?_)
    (refine nx (a_neq (gN rfl) rfl rfl rfl rfl rfl rfl) rfl ?_)
    show AWp _ _ _ _ _ _ _
    refine aC rfl (fun hc => ?_) (fun hc => ?_)
    · have h : s.sz ≠ 0 := by simpa using hc
      rw [if_pos h]
      refine aR ?_
      (refine nx (aM (gN rfl) rfl rfl rfl rfl rfl) rfl ?_)
      (refine nx (aNc (gN rfl) rfl rfl rfl rfl rfl) rfl ?_)
      (refine nx (aF (gN rfl) rfl rfl rfl rfl rfl rfl rfl rfl rfl) rfl ?_)
      (refine nx (aLf (gN rfl) rfl rfl rfl rfl rfl rfl rfl rfl rfl rfl rfl rfl rfl) rfl ?_)
      (refine nx (a_call (gN rfl) rfl rfl rfl rfl rfl (cmp_abs w s.sz 0)) rfl ?_)
      (refine nx (aA (gN rfl) rfl rfl rfl rfl rfl) rfl ?_)
      exact wk_sub ⟨rfl, rfl, rfl, rfl, rfl, rfl, rfl, rfl, trivial⟩
    · have h : ¬ s.sz ≠ 0 := by simpa using hc
      rw [if_neg h]
      refine aK ?_
      exact wk_sub ⟨rfl, rfl, rfl, rfl, rfl, rfl, rfl, rfl, trivial⟩
  unfold vdS
  generalize ordS s x = o
  by_cases h1 : o = 1
  · subst h1
    by_cases h2 : 0 < s.lk
    · have g : decide (s.lk > 0) = true := by simpa using h2
      rw [if_pos (.inl ⟨rfl, h2⟩)]
      refine aS (aS (aR ?_))
      (refine nx (aM (gN rfl) rfl rfl rfl rfl rfl) rfl ?_)
      (refine nx (a_eql (gN rfl) rfl rfl rfl rfl rfl rfl) rfl ?_)
      (refine nx (aM (gN rfl) rfl rfl rfl rfl rfl) rfl ?_)
      (refine nx (aM (gd_on rfl rfl rfl rfl (by first | rfl | assumption | (simp; done))) rfl rfl rfl rfl rfl) rfl ?_)
      (refine nx (aNc (gd_on rfl rfl rfl rfl (by first | rfl | assumption | (simp; done))) rfl rfl rfl rfl rfl) rfl ?_)
      (refine nx (aF (gd_on rfl rfl rfl rfl (by first | rfl | assumption | (simp; done))) rfl rfl rfl rfl rfl rfl rfl rfl rfl) rfl ?_)
      (refine nx (aLf (gd_on rfl rfl rfl rfl (by first | rfl | assumption | (simp; done))) rfl rfl rfl rfl rfl rfl rfl rfl rfl rfl rfl rfl rfl) rfl ?_)
      (refine nx (a_gtr (gd_on rfl rfl rfl rfl (by first | rfl | assumption | (simp; done))) rfl rfl rfl rfl rfl rfl) rfl ?_)
      (refine ⟨_, _, _, aPt (gN rfl) rfl rfl rfl rfl rfl ?hb rfl, rfl, ?_⟩; case hb => (first | rfl | assumption | (simp; done)))
      (refine nx (aM (gN rfl) rfl rfl rfl rfl rfl) rfl ?_)
      (refine ⟨_, _, _, a_offt (go_off rfl rfl rfl rfl (by first | rfl | assumption | (simp; done) | (simp [*]; done))) rfl rfl rfl, rfl, ?_⟩)
      (refine ⟨_, _, _, a_offt (go_off rfl rfl rfl rfl (by first | rfl | assumption | (simp; done) | (simp [*]; done))) rfl rfl rfl, rfl, ?_⟩)
      (refine ⟨_, _, _, a_offt (go_off rfl rfl rfl rfl (by first | rfl | assumption | (simp; done) | (simp [*]; done))) rfl rfl rfl, rfl, ?_⟩)
      (refine ⟨_, _, _, a_offt (go_off_t rfl rfl rfl rfl) rfl rfl rfl, rfl, ?_⟩)
      (refine ⟨_, _, _, a_offt (go_off_t rfl rfl rfl rfl) rfl rfl rfl, rfl, ?_⟩)
      (refine ⟨_, _, _, a_offt (go_off_t rfl rfl rfl rfl) rfl rfl rfl, rfl, ?_⟩)
      (refine ⟨_, _, _, a_offt (go_off_t rfl rfl rfl rfl) rfl rfl rfl, rfl, ?_⟩)
      (refine ⟨_, _, _, a_offt (go_off_t rfl rfl rfl rfl) rfl rfl rfl, rfl, ?_⟩)
      (refine ⟨_, _, _, a_offt (go_off rfl rfl rfl rfl (by first | rfl | assumption | (simp; done) | (simp [*]; done))) rfl rfl rfl, rfl, ?_⟩)
      (refine ⟨_, _, _, aPt (gN rfl) rfl rfl rfl rfl rfl ?hb rfl, rfl, ?_⟩; case hb => (first | rfl | assumption | (simp; done)))
      show AWp _ _ _ _ _ _ _
      refine aC rfl (fun hc => ?_) (fun hc => by cases hc)
      refine aS (aR ?_)
      (refine nx (aA (gN rfl) rfl rfl rfl rfl rfl) rfl ?_)
      show AWp _ _ _ _ _ _ _
      exact aT ⟨.inr rfl, _, Wk.refl _, rfl, rfl, rfl, rfl, rfl, rfl, rfl, trivial⟩
    · have g : decide (s.lk > 0) = false := by simpa using h2
      rw [if_neg (by omega)]
      refine aS (aS (aR ?_))
      (refine nx (aM (gN rfl) rfl rfl rfl rfl rfl) rfl ?_)
      (refine nx (a_eql (gN rfl) rfl rfl rfl rfl rfl rfl) rfl ?_)
      (refine nx (aM (gN rfl) rfl rfl rfl rfl rfl) rfl ?_)
      (refine nx (aM (gd_on rfl rfl rfl rfl (by first | rfl | assumption | (simp; done))) rfl rfl rfl rfl rfl) rfl ?_)
      (refine nx (aNc (gd_on rfl rfl rfl rfl (by first | rfl | assumption | (simp; done))) rfl rfl rfl rfl rfl) rfl ?_)
      (refine nx (aF (gd_on rfl rfl rfl rfl (by first | rfl | assumption | (simp; done))) rfl rfl rfl rfl rfl rfl rfl rfl rfl) rfl ?_)
      (refine nx (aLf (gd_on rfl rfl rfl rfl (by first | rfl | assumption | (simp; done))) rfl rfl rfl rfl rfl rfl rfl rfl rfl rfl rfl rfl rfl) rfl ?_)
      (refine nx (a_gtr (gd_on rfl rfl rfl rfl (by first | rfl | assumption | (simp; done))) rfl rfl rfl rfl rfl rfl) rfl ?_)
      (refine ⟨_, _, _, aPt (gN rfl) rfl rfl rfl rfl rfl ?hb rfl, rfl, ?_⟩; case hb => (first | rfl | assumption | (simp; done)))
      (refine nx (aM (gN rfl) rfl rfl rfl rfl rfl) rfl ?_)
      (refine nx (aM (gd_on rfl rfl rfl rfl (by first | rfl | assumption | (simp; done))) rfl rfl rfl rfl rfl) rfl ?_)
      (refine nx (a_eql (gd_on rfl rfl rfl rfl (by first | rfl | assumption | (simp; done))) rfl rfl rfl rfl rfl rfl) rfl ?_)
      (refine nx (aM (gd_on rfl rfl rfl rfl (by first | rfl | assumption | (simp; done))) rfl rfl rfl rfl rfl) rfl ?_)
      (refine ⟨_, _, _, a_offt (go_off rfl rfl rfl rfl (by first | rfl | assumption | (simp; done) | (simp [*]; done))) rfl rfl rfl, rfl, ?_⟩)
      (refine ⟨_, _, _, a_offt (go_off rfl rfl rfl rfl (by first | rfl | assumption | (simp; done) | (simp [*]; done))) rfl rfl rfl, rfl, ?_⟩)
      (refine ⟨_, _, _, a_offt (go_off rfl rfl rfl rfl (by first | rfl | assumption | (simp; done) | (simp [*]; done))) rfl rfl rfl, rfl, ?_⟩)
      (refine ⟨_, _, _, a_offt (go_off rfl rfl rfl rfl (by first | rfl | assumption | (simp; done) | (simp [*]; done))) rfl rfl rfl, rfl, ?_⟩)
      (refine ⟨_, _, _, a_offt (go_off rfl rfl rfl rfl (by first | rfl | assumption | (simp; done) | (simp [*]; done))) rfl rfl rfl, rfl, ?_⟩)
      (refine ⟨_, _, _, aPf (gd_on rfl rfl rfl rfl (by first | rfl | assumption | (simp; done))) rfl rfl rfl rfl rfl ?hb rfl, rfl, ?_⟩; case hb => (first | rfl | assumption | (simp; done)))
      (refine ⟨_, _, _, aPf (gN rfl) rfl rfl rfl rfl rfl ?hb rfl, rfl, ?_⟩; case hb => (first | rfl | assumption | (simp; done)))
      show AWp _ _ _ _ _ _ _
      refine aC rfl (fun hc => by cases hc) (fun hc => aK ?_)
      show AWp _ _ _ _ _ _ _
      refine aS (aR ?_)
      (refine nx (aM (gN rfl) rfl rfl rfl rfl rfl) rfl ?_)
      (refine nx (aA (gN rfl) rfl rfl rfl rfl rfl) rfl ?_)
      show AWp _ _ _ _ _ _ _
      exact aT ⟨.inr rfl, _, Wk.refl _, rfl, rfl, rfl, rfl, rfl, rfl, rfl, trivial⟩
  · have g1 : decide (o = 1) = false := by simpa using h1
    by_cases h2 : o = -1
    · subst h2
      by_cases h3 : 0 < s.sp
      · have g : decide (s.sp > 0) = true := by simpa using h3
        rw [if_pos (.inr ⟨rfl, h3⟩)]
        refine aS (aS (aR ?_))
        (refine nx (aM (gN rfl) rfl rfl rfl rfl rfl) rfl ?_)
        (refine nx (a_eql (gN rfl) rfl rfl rfl rfl rfl rfl) rfl ?_)
        (refine nx (aM (gN rfl) rfl rfl rfl rfl rfl) rfl ?_)
        (refine ⟨_, _, _, a_offt (go_off rfl rfl rfl rfl (by first | rfl | assumption | (simp; done) | (simp [*]; done))) rfl rfl rfl, rfl, ?_⟩)
        (refine ⟨_, _, _, a_offt (go_off rfl rfl rfl rfl (by first | rfl | assumption | (simp; done) | (simp [*]; done))) rfl rfl rfl, rfl, ?_⟩)
        (refine ⟨_, _, _, a_offt (go_off rfl rfl rfl rfl (by first | rfl | assumption | (simp; done) | (simp [*]; done))) rfl rfl rfl, rfl, ?_⟩)
        (refine ⟨_, _, _, a_offt (go_off rfl rfl rfl rfl (by first | rfl | assumption | (simp; done) | (simp [*]; done))) rfl rfl rfl, rfl, ?_⟩)
        (refine ⟨_, _, _, a_offt (go_off rfl rfl rfl rfl (by first | rfl | assumption | (simp; done) | (simp [*]; done))) rfl rfl rfl, rfl, ?_⟩)
        (refine ⟨_, _, _, aPf (gN rfl) rfl rfl rfl rfl rfl ?hb rfl, rfl, ?_⟩; case hb => (first | rfl | assumption | (simp; done)))
        (refine nx (aM (gN rfl) rfl rfl rfl rfl rfl) rfl ?_)
        (refine nx (aM (gd_on rfl rfl rfl rfl (by first | rfl | assumption | (simp; done))) rfl rfl rfl rfl rfl) rfl ?_)
        (refine nx (a_eql (gd_on rfl rfl rfl rfl (by first | rfl | assumption | (simp; done))) rfl rfl rfl rfl rfl rfl) rfl ?_)
        (refine nx (aM (gd_on rfl rfl rfl rfl (by first | rfl | assumption | (simp; done))) rfl rfl rfl rfl rfl) rfl ?_)
        (refine nx (aM (gd_on rfl rfl rfl rfl (by first | rfl | assumption | (simp; done))) rfl rfl rfl rfl rfl) rfl ?_)
        (refine nx (aNc (gd_on rfl rfl rfl rfl (by first | rfl | assumption | (simp; done))) rfl rfl rfl rfl rfl) rfl ?_)
        (refine nx (aF (gd_on rfl rfl rfl rfl (by first | rfl | assumption | (simp; done))) rfl rfl rfl rfl rfl rfl rfl rfl rfl) rfl ?_)
        (refine nx (aLf (gd_on rfl rfl rfl rfl (by first | rfl | assumption | (simp; done))) rfl rfl rfl rfl rfl rfl rfl rfl rfl rfl rfl rfl rfl) rfl ?_)
        (refine nx (a_gtr (gd_on rfl rfl rfl rfl (by first | rfl | assumption | (simp; done))) rfl rfl rfl rfl rfl rfl) rfl ?_)
        (refine ⟨_, _, _, aPt (gd_on rfl rfl rfl rfl (by first | rfl | assumption | (simp; done))) rfl rfl rfl rfl rfl ?hb rfl, rfl, ?_⟩; case hb => (first | rfl | assumption | (simp; done)))
        (refine ⟨_, _, _, aPf (gN rfl) rfl rfl rfl rfl rfl ?hb rfl, rfl, ?_⟩; case hb => (first | rfl | assumption | (simp; done)))
        show AWp _ _ _ _ _ _ _
        refine aC rfl (fun hc => ?_) (fun hc => by rw [g] at hc; cases hc)
        refine aS (aR ?_)
        (refine nx (aA (gN rfl) rfl rfl rfl rfl rfl) rfl ?_)
        show AWp _ _ _ _ _ _ _
        exact aT ⟨.inr rfl, _, Wk.refl _, rfl, rfl, rfl, rfl, rfl, rfl, rfl, trivial⟩
      · have g : decide (s.sp > 0) = false := by simpa using h3
        rw [if_neg (by omega)]
        refine aS (aS (aR ?_))
        (refine nx (aM (gN rfl) rfl rfl rfl rfl rfl) rfl ?_)
        (refine nx (a_eql (gN rfl) rfl rfl rfl rfl rfl rfl) rfl ?_)
        (refine nx (aM (gN rfl) rfl rfl rfl rfl rfl) rfl ?_)
        (refine ⟨_, _, _, a_offt (go_off rfl rfl rfl rfl (by first | rfl | assumption | (simp; done) | (simp [*]; done))) rfl rfl rfl, rfl, ?_⟩)
        (refine ⟨_, _, _, a_offt (go_off rfl rfl rfl rfl (by first | rfl | assumption | (simp; done) | (simp [*]; done))) rfl rfl rfl, rfl, ?_⟩)
        (refine ⟨_, _, _, a_offt (go_off rfl rfl rfl rfl (by first | rfl | assumption | (simp; done) | (simp [*]; done))) rfl rfl rfl, rfl, ?_⟩)
        (refine ⟨_, _, _, a_offt (go_off rfl rfl rfl rfl (by first | rfl | assumption | (simp; done) | (simp [*]; done))) rfl rfl rfl, rfl, ?_⟩)
        (refine ⟨_, _, _, a_offt (go_off rfl rfl rfl rfl (by first | rfl | assumption | (simp; done) | (simp [*]; done))) rfl rfl rfl, rfl, ?_⟩)
        (refine ⟨_, _, _, aPf (gN rfl) rfl rfl rfl rfl rfl ?hb rfl, rfl, ?_⟩; case hb => (first | rfl | assumption | (simp; done)))
        (refine nx (aM (gN rfl) rfl rfl rfl rfl rfl) rfl ?_)
        (refine nx (aM (gd_on rfl rfl rfl rfl (by first | rfl | assumption | (simp; done))) rfl rfl rfl rfl rfl) rfl ?_)
        (refine nx (a_eql (gd_on rfl rfl rfl rfl (by first | rfl | assumption | (simp; done))) rfl rfl rfl rfl rfl rfl) rfl ?_)
        (refine nx (aM (gd_on rfl rfl rfl rfl (by first | rfl | assumption | (simp; done))) rfl rfl rfl rfl rfl) rfl ?_)
        (refine nx (aM (gd_on rfl rfl rfl rfl (by first | rfl | assumption | (simp; done))) rfl rfl rfl rfl rfl) rfl ?_)
        (refine nx (aNc (gd_on rfl rfl rfl rfl (by first | rfl | assumption | (simp; done))) rfl rfl rfl rfl rfl) rfl ?_)
        (refine nx (aF (gd_on rfl rfl rfl rfl (by first | rfl | assumption | (simp; done))) rfl rfl rfl rfl rfl rfl rfl rfl rfl) rfl ?_)
        (refine nx (aLf (gd_on rfl rfl rfl rfl (by first | rfl | assumption | (simp; done))) rfl rfl rfl rfl rfl rfl rfl rfl rfl rfl rfl rfl rfl) rfl ?_)
        (refine nx (a_gtr (gd_on rfl rfl rfl rfl (by first | rfl | assumption | (simp; done))) rfl rfl rfl rfl rfl rfl) rfl ?_)
        (refine ⟨_, _, _, aPt (gd_on rfl rfl rfl rfl (by first | rfl | assumption | (simp; done))) rfl rfl rfl rfl rfl ?hb rfl, rfl, ?_⟩; case hb => (first | rfl | assumption | (simp; done)))
        (refine ⟨_, _, _, aPf (gN rfl) rfl rfl rfl rfl rfl ?hb rfl, rfl, ?_⟩; case hb => (first | rfl | assumption | (simp; done)))
        show AWp _ _ _ _ _ _ _
        refine aC rfl (fun hc => by rw [g] at hc; cases hc) (fun hc => aK ?_)
        show AWp _ _ _ _ _ _ _
        refine aS (aR ?_)
        (refine nx (aM (gN rfl) rfl rfl rfl rfl rfl) rfl ?_)
        (refine nx (aA (gN rfl) rfl rfl rfl rfl rfl) rfl ?_)
        show AWp _ _ _ _ _ _ _
        exact aT ⟨.inr rfl, _, Wk.refl _, rfl, rfl, rfl, rfl, rfl, rfl, rfl, trivial⟩
    · have g2 : decide (o = -1) = false := by simpa using h2
      rw [if_neg (by omega)]
      refine aS (aS (aR ?_))
      (refine nx (aM (gN rfl) rfl rfl rfl rfl rfl) rfl ?_)
      (refine nx (a_eql (gN rfl) rfl rfl rfl rfl rfl rfl) rfl ?_)
      (refine nx (aM (gN rfl) rfl rfl rfl rfl rfl) rfl ?_)
      (refine ⟨_, _, _, a_offt (go_off rfl rfl rfl rfl (by first | rfl | assumption | (simp; done) | (simp [*]; done))) rfl rfl rfl, rfl, ?_⟩)
      (refine ⟨_, _, _, a_offt (go_off rfl rfl rfl rfl (by first | rfl | assumption | (simp; done) | (simp [*]; done))) rfl rfl rfl, rfl, ?_⟩)
      (refine ⟨_, _, _, a_offt (go_off rfl rfl rfl rfl (by first | rfl | assumption | (simp; done) | (simp [*]; done))) rfl rfl rfl, rfl, ?_⟩)
      (refine ⟨_, _, _, a_offt (go_off rfl rfl rfl rfl (by first | rfl | assumption | (simp; done) | (simp [*]; done))) rfl rfl rfl, rfl, ?_⟩)
      (refine ⟨_, _, _, a_offt (go_off rfl rfl rfl rfl (by first | rfl | assumption | (simp; done) | (simp [*]; done))) rfl rfl rfl, rfl, ?_⟩)
      (refine ⟨_, _, _, aPf (gN rfl) rfl rfl rfl rfl rfl ?hb rfl, rfl, ?_⟩; case hb => (first | rfl | assumption | (simp; done)))
      (refine nx (aM (gN rfl) rfl rfl rfl rfl rfl) rfl ?_)
      (refine nx (aM (gd_on rfl rfl rfl rfl (by first | rfl | assumption | (simp; done))) rfl rfl rfl rfl rfl) rfl ?_)
      (refine nx (a_eql (gd_on rfl rfl rfl rfl (by first | rfl | assumption | (simp; done))) rfl rfl rfl rfl rfl rfl) rfl ?_)
      (refine nx (aM (gd_on rfl rfl rfl rfl (by first | rfl | assumption | (simp; done))) rfl rfl rfl rfl rfl) rfl ?_)
      (refine ⟨_, _, _, a_offt (go_off rfl rfl rfl rfl (by first | rfl | assumption | (simp; done) | (simp [*]; done))) rfl rfl rfl, rfl, ?_⟩)
      (refine ⟨_, _, _, a_offt (go_off rfl rfl rfl rfl (by first | rfl | assumption | (simp; done) | (simp [*]; done))) rfl rfl rfl, rfl, ?_⟩)
      (refine ⟨_, _, _, a_offt (go_off rfl rfl rfl rfl (by first | rfl | assumption | (simp; done) | (simp [*]; done))) rfl rfl rfl, rfl, ?_⟩)
      (refine ⟨_, _, _, a_offt (go_off rfl rfl rfl rfl (by first | rfl | assumption | (simp; done) | (simp [*]; done))) rfl rfl rfl, rfl, ?_⟩)
      (refine ⟨_, _, _, a_offt (go_off rfl rfl rfl rfl (by first | rfl | assumption | (simp; done) | (simp [*]; done))) rfl rfl rfl, rfl, ?_⟩)
      (refine ⟨_, _, _, aPf (gd_on rfl rfl rfl rfl (by first | rfl | assumption | (simp; done))) rfl rfl rfl rfl rfl ?hb rfl, rfl, ?_⟩; case hb => (first | rfl | assumption | (simp; done)))
      (refine ⟨_, _, _, aPf (gN rfl) rfl rfl rfl rfl rfl ?hb rfl, rfl, ?_⟩; case hb => (first | rfl | assumption | (simp; done)))
      show AWp _ _ _ _ _ _ _
      refine aC rfl (fun hc => by cases hc) (fun hc => aK ?_)
      show AWp _ _ _ _ _ _ _
      refine aS (aR ?_)
      (refine nx (aM (gN rfl) rfl rfl rfl rfl rfl) rfl ?_)
      (refine nx (aA (gN rfl) rfl rfl rfl rfl rfl) rfl ?_)
      show AWp _ _ _ _ _ _ _
      exact aT ⟨.inr rfl, _, Wk.refl _, rfl, rfl, rfl, rfl, rfl, rfl, rfl, trivial⟩
def orL : List Int → Int
  | [] => 0
  | x :: l => if x ≠ 0 then x else orL l
theorem orL_at : ∀ {l : List Int} {k : Nat} {x : Int}, l[k]? = some x → x ≠ 0 → (∀ j y, j < k → l[j]? = some y → y = 0) → orL l = x
  | [], k, x, h, _, _ => by simp at h
  | y :: l, 0, x, h, hx, _ => by
    simp at h
    subst h
    rw [orL, if_pos hx]
  | y :: l, k + 1, x, h, hx, hi => by
    rw [orL, if_neg (by have := hi 0 y (by omega) rfl; omega)]
    exact orL_at (by simpa using h) hx fun j z hj hz => hi (j + 1) z (by omega) (by simpa using hz)
theorem orL_none : ∀ {l : List Int}, (∀ x ∈ l, x = 0) → orL l = 0
  | [], _ => rfl
  | x :: l, h => by
    rw [orL, if_neg (by have := h x (by simp); omega)]
    exact orL_none fun y hy => h y (List.mem_cons_of_mem _ hy)
-- 
theorem cOr_abs (W : World) (l : List Int) (hl : l.length ≤ 1000000000) : AFun Try.prog W 91 [.lst (l.map CV.i)] (.val (.i (orL l))) := by
  have hsz := ints_size l
  refine afun_of (rs := [.i (orL l)]) Try.func91 Try.ntmps91 rfl rfl rfl rfl ?_
  intro w U hW
  refine aS (aR ?_)
  (refine nx (aA (gN rfl) rfl rfl rfl rfl rfl) rfl ?_)
  show AWp _ _ _ _ _ _ _
  refine aS (aR ?_)
  (refine nx (aA (gN rfl) rfl rfl rfl rfl rfl) rfl ?_)
  show AWp _ _ _ _ _ _ _
  refine aS (aS (aR ?_))
  (refine nx (aM (gN rfl) rfl rfl rfl rfl rfl) rfl ?_)
  (refine nx (a_len (gN rfl) rfl rfl rfl rfl rfl rfl rfl) rfl ?_)
  (refine nx (aM (gN rfl) rfl rfl rfl rfl rfl) rfl ?_)
  show AWp _ _ _ _ _ _ _
  refine aB (awp_countI l.length (fun k => ∀ j y, j < k → l[j]? = some y → y = 0) (fun k => [(3, .val (.i 0)), (6, .val (.lst (l.map CV.i))), (7, .val (.i (l.map CV.i).length)), (8, .val (.i k))]) (wk_sub ⟨rfl, rfl, rfl, rfl, trivial⟩) (fun j c hj => by omega) ?_)
  intro k hk hI
  refine aS (aR ?_)
  (refine nx (a_lss (gN rfl) rfl rfl rfl rfl rfl rfl) rfl ?_)
  show AWp _ _ _ _ _ _ _
  refine aS (aC rfl (fun hlt => ?_) (fun hlt => ?_))
  · have hkl : k < l.length := by simpa using hlt
    obtain ⟨x, hx⟩ : ∃ x, l[k]? = some x := ⟨l[k], List.getElem?_eq_getElem hkl⟩
    have hx' : (l.map CV.i)[k]? = some (CV.i x) := by rw [List.getElem?_map, hx]; rfl
    refine aK ?_
    show AWp _ _ _ _ _ _ _
    refine aS (aB (aS (aR ?_)))
    (refine nx (a_index (j := k) (gN rfl) rfl rfl rfl rfl rfl rfl rfl rfl rfl (hx') rfl (hsz)) rfl ?_)
    (refine nx (a_load_ad (gN rfl) rfl rfl rfl rfl rfl rfl rfl rfl rfl) rfl ?_)
    (refine nx (aA (gN rfl) rfl rfl rfl rfl rfl) rfl ?_)
    show AWp _ _ _ _ _ _ _
    refine aS (aR ?_)
    (refine nx (aM (gN rfl) rfl rfl rfl rfl rfl) rfl ?_)
    (refine nx (aM (gN rfl) rfl rfl rfl rfl rfl) rfl ?_)
    (refine nx (a_neq (gN rfl) rfl rfl rfl rfl rfl rfl) rfl ?_)
    show AWp _ _ _ _ _ _ _
    refine aC rfl (fun hq => ?_) (fun hq => ?_)
    · have hq : x ≠ 0 := by simpa using hq
      refine aS (aR ?_)
      (refine nx (aM (gN rfl) rfl rfl rfl rfl rfl) rfl ?_)
      (refine nx (aA (gN rfl) rfl rfl rfl rfl rfl) rfl ?_)
      show AWp _ _ _ _ _ _ _
      rw [orL_at hx hq hI]
      exact aT ⟨.inr rfl, rfl⟩
    · have hq : x = 0 := by simpa using hq
      refine aK ?_
      show AWp _ _ _ _ _ _ _
      refine aR ?_
      (refine nx (a_add (gN rfl) rfl rfl rfl rfl rfl rfl (by first | omega | (simp only [List.length_map, List.length_append, List.length_cons, List.length_nil] <;> omega) | (simp <;> omega))) rfl ?_)
      (refine nx (aM (gN rfl) rfl rfl rfl rfl rfl) rfl ?_)
      refine ⟨hkl, fun j c hj hc => ?_, wk_sub ⟨rfl, rfl, rfl, rfl, trivial⟩⟩
      rcases Nat.lt_or_ge j k with h | h
      · exact hI j c h hc
      · have : j = k := by omega
        subst this
        rw [hx] at hc
        cases hc
        exact hq
  · have hkl : ¬ k < l.length := by simpa using hlt
    rw [orL_none (l := l) fun x hx => ?_]
    · refine aE ?_
      show AWp _ _ _ _ _ _ _
      refine aS (aR ?_)
      (refine nx (aM (gN rfl) rfl rfl rfl rfl rfl) rfl ?_)
      (refine nx (aA (gN rfl) rfl rfl rfl rfl rfl) rfl ?_)
      show AWp _ _ _ _ _ _ _
      exact aT ⟨.inr rfl, rfl⟩
    · obtain ⟨j, hj⟩ := List.getElem?_of_mem hx
      have hjl : j < l.length := by
        rcases Nat.lt_or_ge j l.length with h | h
        · exact h
        · rw [List.getElem?_eq_none h] at hj; cases hj
      exact hI j x (by omega) hj
theorem hd_or {a b : Tm} (h : ¬ (a.f < 0 ∨ b.f < 0)) : hdK a b = orL [cmpZ a.f b.f, cmpZ a.l.length b.l.length] := by
  unfold hdK
  rw [if_neg h]
  simp only [orL]
  rcases cmpZ_cases a.f b.f with h1 | h1 | h1
  · rw [if_pos (by omega), if_pos (by omega)]
  · rw [if_neg (by omega), if_neg (by omega)]
    split
    · rfl
    · omega
  · rw [if_pos (by omega), if_pos (by omega)]
-- 
theorem kHeads_abs (W : World) (a b : Tm) : AFun Try.prog W 76 [a.cw, b.cw] (.val (.i (hdK a b))) := by
  refine afun_of (rs := [.i (hdK a b)]) Try.func76 Try.ntmps76 rfl rfl rfl rfl ?_
  intro w U hW
  refine aS (aR ?_)
  (refine nx (a_box (gN rfl) rfl rfl rfl rfl rfl) rfl ?_)
  (refine nx (a_box (gN rfl) rfl rfl rfl rfl rfl) rfl ?_)
  (refine nx (aA (gN rfl) rfl rfl rfl rfl rfl) rfl ?_)
  show AWp _ _ _ _ _ _ _
  by_cases ha : a.f < 0
  · have g : decide (a.f < 0) = true := by simpa using ha
    refine aS (aS (aR ?_))
    (refine nx (aL (gN rfl) rfl rfl rfl rfl rfl rfl rfl rfl rfl rfl rfl rfl) rfl ?_)
    (refine nx (a_call (gN rfl) rfl rfl rfl rfl rfl (kIsVar_abs w a)) rfl ?_)
    (refine nx (aM (gN rfl) rfl rfl rfl rfl rfl) rfl ?_)
    (refine ⟨_, _, _, a_off (go_off rfl rfl rfl rfl (by first | rfl | assumption | (simp; done) | (simp [*]; done))) rfl rfl rfl, rfl, ?_⟩)
    (refine ⟨_, _, _, a_off (go_off rfl rfl rfl rfl (by first | rfl | assumption | (simp; done) | (simp [*]; done))) rfl rfl rfl, rfl, ?_⟩)
    (refine ⟨_, _, _, aPt (gN rfl) rfl rfl rfl rfl rfl ?hb rfl, rfl, ?_⟩; case hb => (first | rfl | assumption | (simp; done)))
    show AWp _ _ _ _ _ _ _
    refine aC rfl (fun hc => ?_) (fun hc => by cases hc)
    unfold hdK
    rw [if_pos (.inl ha)]
    refine aS (aR ?_)
    (refine nx (aA (gN rfl) rfl rfl rfl rfl rfl) rfl ?_)
    show AWp _ _ _ _ _ _ _
    exact aT ⟨.inr rfl, rfl⟩
  have g : decide (a.f < 0) = false := by simpa using ha
  refine aS (aS (aR ?_))
  (refine nx (aL (gN rfl) rfl rfl rfl rfl rfl rfl rfl rfl rfl rfl rfl rfl) rfl ?_)
  (refine nx (a_call (gN rfl) rfl rfl rfl rfl rfl (kIsVar_abs w a)) rfl ?_)
  (refine nx (aM (gN rfl) rfl rfl rfl rfl rfl) rfl ?_)
  (refine nx (aL (gd_on rfl rfl rfl rfl (by first | rfl | assumption | (simp; done))) rfl rfl rfl rfl rfl rfl rfl rfl rfl rfl rfl rfl) rfl ?_)
  (refine nx (a_call (gd_on rfl rfl rfl rfl (by first | rfl | assumption | (simp; done))) rfl rfl rfl rfl rfl (kIsVar_abs w b)) rfl ?_)
  (refine ⟨_, _, _, aPf (gN rfl) rfl rfl rfl rfl rfl ?hb rfl, rfl, ?_⟩; case hb => (first | rfl | assumption | (simp; done)))
  show AWp _ _ _ _ _ _ _
  refine aC rfl (fun hc => ?_) (fun hc => ?_)
  · have hb : b.f < 0 := by simpa using hc
    unfold hdK
    rw [if_pos (.inr hb)]
    refine aS (aR ?_)
    (refine nx (aA (gN rfl) rfl rfl rfl rfl rfl) rfl ?_)
    show AWp _ _ _ _ _ _ _
    exact aT ⟨.inr rfl, rfl⟩
  · have hb : ¬ b.f < 0 := by simpa using hc
    rw [hd_or (by omega)]
    have e1 : (a.l.map Tm.cv).length = a.l.length := List.length_map ..
    have e2 : (b.l.map Tm.cv).length = b.l.length := List.length_map ..
    refine aK ?_
    show AWp _ _ _ _ _ _ _
    refine aS (aD (by kernel_rfl) (by kernel_rfl) ?_)
    (refine nx (aF (gN rfl) rfl rfl rfl rfl rfl rfl rfl rfl rfl) rfl ?_)
    (refine nx (aLb (gN rfl) rfl rfl rfl rfl rfl rfl rfl rfl rfl rfl rfl rfl) rfl ?_)
    (refine nx (aF (gN rfl) rfl rfl rfl rfl rfl rfl rfl rfl rfl) rfl ?_)
    (refine nx (aLb (gN rfl) rfl rfl rfl rfl rfl rfl rfl rfl rfl rfl rfl rfl) rfl ?_)
    (refine nx (a_call (gN rfl) rfl rfl rfl rfl rfl (cmp_abs w a.f b.f)) rfl ?_)
    (refine nx (aF (gN rfl) rfl rfl rfl rfl rfl rfl rfl rfl rfl) rfl ?_)
    (refine nx (aLb (gN rfl) rfl rfl rfl rfl rfl rfl rfl rfl rfl rfl rfl rfl) rfl ?_)
    (refine nx (a_len (gN rfl) rfl rfl rfl rfl rfl rfl rfl) rfl ?_)
    (refine nx (aF (gN rfl) rfl rfl rfl rfl rfl rfl rfl rfl rfl) rfl ?_)
    (refine nx (aLb (gN rfl) rfl rfl rfl rfl rfl rfl rfl rfl rfl rfl rfl rfl) rfl ?_)
    (refine nx (a_len (gN rfl) rfl rfl rfl rfl rfl rfl rfl) rfl ?_)
    (refine nx (a_call (gN rfl) rfl rfl rfl rfl rfl (cmp_abs w _ _)) rfl ?_)
    (refine nx (a_bslice (gN rfl) rfl rfl rfl rfl rfl rfl rfl rfl rfl rfl rfl rfl rfl) rfl ?_)
    (refine nx (a_call (gN rfl) rfl rfl rfl rfl rfl (cOr_abs w [_, _] (by simp))) rfl ?_)
    (refine nx (aA (gN rfl) rfl rfl rfl rfl rfl) rfl ?_)
    refine ⟨by kernel_rfl, ?_⟩
    show AWp _ _ _ _ _ _ _
    rw [e1, e2]
    exact aT ⟨.inr rfl, rfl⟩
end Go.Proofs.Ytekboofbedakcaa
namespace Go.Proofs.Ytekboofbedakcaa
set_option linter.unusedVariables false
set_option linter.unusedSimpArgs false
theorem kb_self (a : Tm) : kb a a = 0 := (kb_zero a a).2 rfl
theorem hd_one {a b : Tm} : hdK a b = 1 ↔ ¬ a.f < 0 ∧ ¬ b.f < 0 ∧ (b.f < a.f ∨ (a.f = b.f ∧ b.l.length < a.l.length)) := by
  unfold hdK
  split
  · constructor
    · intro h; omega
    · rintro ⟨h1, h2, _⟩; omega
  · rename_i h
    split
    · rename_i h2
      rcases cmpZ_cases a.f b.f with h3 | h3 | h3
      · constructor
        · intro h4; omega
        · rintro ⟨_, _, h4⟩; omega
      · constructor
        · intro h4; omega
        · rintro ⟨_, _, h4⟩; omega
      · exact ⟨fun _ => ⟨by omega, by omega, by omega⟩, fun _ => h3.1⟩
    · rename_i h2
      rcases cmpZ_cases a.l.length b.l.length with h3 | h3 | h3
      · constructor
        · intro h4; omega
        · rintro ⟨_, _, h4⟩; omega
      · constructor
        · intro h4; omega
        · rintro ⟨_, _, h4⟩; omega
      · exact ⟨fun _ => ⟨by omega, by omega, by omega⟩, fun _ => h3.1⟩
theorem wi_one {a b : Tm} : wi a b = 1 ↔ ¬ a.f < 0 ∧ ¬ b.f < 0 ∧ (b.f < a.f ∨ (a.f = b.f ∧ (b.l.length < a.l.length ∨ (a.l.length = b.l.length ∧ kbs a.l b.l = 1)))) := by
  unfold wi
  split
  · rename_i h
    rw [hd_one]
    constructor
    · rintro ⟨h1, h2, h3⟩; exact ⟨h1, h2, by omega⟩
    · rintro ⟨h1, h2, h3⟩
      rw [Tm.ps_of_sym (t := a) (by omega), Tm.ps_of_sym (t := b) (by omega)] at h
      exact ⟨h1, h2, by omega⟩
  · rename_i h
    by_cases hf : a.f < 0
    · rw [Tm.ps_of_var hf, kbs_nil]
      constructor
      · intro h; omega
      · rintro ⟨h1, _⟩; omega
    · rw [Tm.ps_of_sym (t := a) (by omega), Tm.ps_of_sym (t := b) (by omega)] at h ⊢
      constructor
      · intro h1; exact ⟨hf, by omega, .inr ⟨by omega, .inr ⟨by omega, h1⟩⟩⟩
      · rintro ⟨h1, h2, h3 | ⟨h3, h4 | ⟨h4, h5⟩⟩⟩
        · omega
        · omega
        · exact h5
theorem firstK_one {k r : Int} : firstK k r = 1 ↔ k = 1 ∨ (k = 0 ∧ r = 1) := by
  unfold firstK
  split <;> omega
theorem kbs_trans : ∀ {l m n : List Tm}, l.length = m.length → m.length = n.length → (∀ s ∈ l, ∀ t u, kb s t = 1 → kb t u = 1 → kb s u = 1) → kbs l m = 1 → kbs m n = 1 → kbs l n = 1
  | [], _, _, _, _, _, h, _ => by rw [kbs_nil] at h; omega
  | _ :: _, [], _, h, _, _, _, _ => by simp at h
  | _ :: _, _ :: _, [], _, h, _, _, _ => by simp at h
  | x :: l, y :: m, z :: n, h1, h2, ih, h3, h4 => by
    rw [kbs_cons, firstK_one] at h3 h4 ⊢
    rcases h3 with h3 | ⟨h3, h3'⟩ <;> rcases h4 with h4 | ⟨h4, h4'⟩
    · exact .inl (ih x (by simp) y z h3 h4)
    · left; rw [kb_congr rfl ((kb_zero y z).1 h4).symm]; exact h3
    · left; rw [kb_congr ((kb_zero x y).1 h3) rfl]; exact h4
    · right
      exact ⟨(kb_zero x z).2 (((kb_zero x y).1 h3).trans ((kb_zero y z).1 h4)), kbs_trans (by simpa using h1) (by simpa using h2) (fun s hs => ih s (List.mem_cons_of_mem _ hs)) h3' h4'⟩
theorem kb_trans (a : Tm) : ∀ b c, kb a b = 1 → kb b c = 1 → kb a c = 1 := by
  induction a using Tm.ind with
  | h f l ih =>
    intro b c h1 h2
    rw [kb_one] at h1 h2 ⊢
    obtain ⟨c1, h1⟩ := h1
    obtain ⟨c2, h2⟩ := h2
    refine ⟨cov_trans c1 c2, ?_⟩
    rcases h1 with h1 | ⟨h1, g1⟩
    · left; omega
    rcases h2 with h2 | ⟨h2, g2⟩
    · left; omega
    right
    refine ⟨h1.trans h2, ?_⟩
    rw [wi_one] at g1 g2 ⊢
    obtain ⟨a1, a2, a3⟩ := g1
    obtain ⟨b1, b2, b3⟩ := g2
    refine ⟨a1, b2, ?_⟩
    rcases a3 with a3 | ⟨a3, a4⟩
    · left; omega
    rcases b3 with b3 | ⟨b3, b4⟩
    · left; omega
    right
    refine ⟨a3.trans b3, ?_⟩
    rcases a4 with a4 | ⟨a4, a5⟩
    · left; omega
    rcases b4 with b4 | ⟨b4, b5⟩
    · left; omega
    right
    exact ⟨a4.trans b4, kbs_trans a4 b4 ih a5 b5⟩
theorem kb_anti {a b : Tm} (h : kb a b = 1) : kb b a = -1 := by rw [kb_turn, h]; rfl

theorem kb_big {a b : Tm} (h : cov a b) (h2 : b.size < a.size) : kb a b = 1 := (kb_one a b).2 ⟨h, .inl h2⟩
theorem kbs_ctx : ∀ (l1 : List Tm) (x y : Tm) (l2 : List Tm), kbs (l1 ++ x :: l2) (l1 ++ y :: l2) = kb x y
  | [], x, y, l2 => by
    have h0 : ∀ l : List Tm, kbs l l = 0 := by
      intro l
      induction l with
      | nil => rfl
      | cons x l ih => rw [kbs_cons, kb_self, ih]; rfl
    rw [List.nil_append, List.nil_append, kbs_cons, h0]
    unfold firstK
    split
    · rfl
    · omega
  | z :: l1, x, y, l2 => by
    rw [List.cons_append, List.cons_append, kbs_cons, kb_self, kbs_ctx l1 x y l2]
    rfl
theorem kb_ctx {f : Int} (hf : ¬ f < 0) (l1 : List Tm) (x y : Tm) (l2 : List Tm) : kb ⟨f, l1 ++ x :: l2⟩ ⟨f, l1 ++ y :: l2⟩ = kb x y := by
  have h4 : K4 (wi x y) := by
    unfold wi
    split
    · exact hd_four x y
    · exact kbs_four fun s _ t => kb_four s t
  have hp : ∀ l : List Tm, (Tm.mk f l).ps = l := fun l => Tm.ps_of_sym (t := ⟨f, l⟩) (by show 0 ≤ f; omega)
  have hw : wi ⟨f, l1 ++ x :: l2⟩ ⟨f, l1 ++ y :: l2⟩ = kb x y := by
    unfold wi
    rw [hp, hp, if_neg (by simp), kbs_ctx]
  have hs : szD ⟨f, l1 ++ x :: l2⟩ ⟨f, l1 ++ y :: l2⟩ = szD x y := by
    unfold szD
    rw [Tm.size_sym (t := ⟨f, _⟩) hf, Tm.size_sym (t := ⟨f, _⟩) hf]
    simp only [List.map_append, List.map_cons, List.sum_append_nat, List.sum_cons]
    omega
  have hc : ∀ x y : Tm, cov ⟨f, l1 ++ x :: l2⟩ ⟨f, l1 ++ y :: l2⟩ = cov x y := fun x y => by
    unfold cov
    rw [Tm.vs_sym (t := ⟨f, _⟩) hf, Tm.vs_sym (t := ⟨f, _⟩) hf]
    simp only [List.flatMap_append, List.flatMap_cons, List.count_append]
    apply propext
    constructor
    · intro h v; have := h v; omega
    · intro h v; have := h v; omega
  rw [kb_eq, hw, hs, hc, hc]
  conv => lhs; rw [kb_eq]
  rw [verd_twice _ _ _ _ h4, ← kb_eq]
end Go.Proofs.Ytekboofbedakcaa
namespace Go.Proofs.Ytekboofbedakcaa
open Go.RowKit
set_option linter.unusedVariables false
set_option linter.unusedSimpArgs false
set_option maxRecDepth 100000
def emp : Sc := ⟨0, [], 0, 0⟩
noncomputable def restS (c : Int) (s : Sc) (l m : List Tm) (r : Sc) : Sc := if c ≠ 0 then addL (-1) (addL 1 s l) m else r
noncomputable def scS (p : Tm) : Tm → Sc :=
  Tm.rec (motive_1 := fun _ => Tm → Sc) (motive_2 := fun _ => List Tm → Sc)
    (fun f l ih t => if f ≠ t.f ∨ (Tm.mk f l).ps.length ≠ t.ps.length then addT (-1) (addT 1 emp ⟨f, l⟩) t else if f < 0 then emp else ih t.l)
    (fun _ => emp)
    (fun x l ih1 ih2 ts => match ts with | [] => emp | t :: ts => restS (kb x t) (ih1 t) l ts (ih2 ts)) p
noncomputable def scs (ps : List Tm) : List Tm → Sc :=
  Tm.rec_1 (motive_1 := fun _ => Tm → Sc) (motive_2 := fun _ => List Tm → Sc)
    (fun f l ih t => if f ≠ t.f ∨ (Tm.mk f l).ps.length ≠ t.ps.length then addT (-1) (addT 1 emp ⟨f, l⟩) t else if f < 0 then emp else ih t.l)
    (fun _ => emp)
    (fun x l ih1 ih2 ts => match ts with | [] => emp | t :: ts => restS (kb x t) (ih1 t) l ts (ih2 ts)) ps
theorem scs_nil (m : List Tm) : scs [] m = emp := rfl
theorem scs_cons (x : Tm) (l : List Tm) (y : Tm) (m : List Tm) : scs (x :: l) (y :: m) = restS (kb x y) (scS x y) l m (scs l m) := rfl
theorem scS_ne {a b : Tm} (h : a.f ≠ b.f ∨ a.ps.length ≠ b.ps.length) : scS a b = addT (-1) (addT 1 emp a) b := by
  cases a
  show (if _ then _ else _) = _
  rw [if_pos h]
theorem scS_eq {a b : Tm} (h : ¬ (a.f ≠ b.f ∨ a.ps.length ≠ b.ps.length)) : scS a b = scs a.ps b.ps := by
  cases a with
  | mk f l =>
    show (if _ then _ else _) = _
    rw [if_neg h]
    by_cases hf : f < 0
    · rw [if_pos hf, Tm.ps_of_var (t := ⟨f, l⟩) hf, scs_nil]
    · rw [if_neg hf, Tm.ps_of_sym (t := ⟨f, l⟩) (by show 0 ≤ f; omega), Tm.ps_of_sym (t := b) (by have := Classical.not_not.1 (fun e => h (.inl e)); simp only at this; omega)]
      rfl
theorem scs_at : ∀ {l m : List Tm} {k : Nat} {x y : Tm}, l[k]? = some x → m[k]? = some y → kb x y ≠ 0 → (∀ j u v, j < k → l[j]? = some u → m[j]? = some v → kb u v = 0) → scs l m = addL (-1) (addL 1 (scS x y) (l.drop (k + 1))) (m.drop (k + 1)) ∧ kbs l m = kb x y
  | [], _, k, x, y, h, _, _, _ => by simp at h
  | _ :: _, [], k, x, y, _, h, _, _ => by simp at h
  | u :: l, v :: m, 0, x, y, h1, h2, hne, _ => by
    simp at h1 h2
    subst h1; subst h2
    rw [scs_cons, kbs_cons]
    unfold restS firstK
    rw [if_pos hne, if_pos hne]
    exact ⟨rfl, rfl⟩
  | u :: l, v :: m, k + 1, x, y, h1, h2, hne, hi => by
    have h0 := hi 0 u v (by omega) rfl rfl
    rw [scs_cons, kbs_cons]
    unfold restS firstK
    rw [if_neg (by omega), if_neg (by omega)]
    exact scs_at (by simpa using h1) (by simpa using h2) hne fun j u v hj hu hv => hi (j + 1) u v (by omega) (by simpa using hu) (by simpa using hv)
theorem scs_none : ∀ {l m : List Tm}, (∀ (j : Nat) u v, l[j]? = some u → m[j]? = some v → kb u v = 0) → scs l m = emp ∧ kbs l m = 0
  | [], _, _ => ⟨rfl, rfl⟩
  | _ :: _, [], _ => ⟨rfl, rfl⟩
  | u :: l, v :: m, hi => by
    have h0 := hi 0 u v rfl rfl
    rw [scs_cons, kbs_cons]
    unfold restS firstK
    rw [if_neg (by omega), if_neg (by omega)]
    exact scs_none fun j u v hu hv => hi (j + 1) u v (by simpa using hu) (by simpa using hv)
theorem emp_ss : Ss emp 0 fun _ => 0 := ⟨rfl, by simp [ndk, emp], rfl, rfl, fun _ => rfl⟩
theorem emp_bds : Bds emp 0 := ⟨by simp [emp], by simp [emp], by simp [emp], fun _ => by simp [emp, mget, mfind]⟩
def vD (a b : Tm) (v : Int) : Int := (a.vs.count v : Int) - b.vs.count v
theorem first_ne : ∀ (l m : List Tm), l.length = m.length → (∃ (k : Nat) (x y : Tm), l[k]? = some x ∧ m[k]? = some y ∧ kb x y ≠ 0 ∧ ∀ (j : Nat) u v, j < k → l[j]? = some u → m[j]? = some v → kb u v = 0) ∨ ∀ (j : Nat) u v, l[j]? = some u → m[j]? = some v → kb u v = 0
  | [], _, _ => .inr fun j u v h => by simp at h
  | _ :: _, [], h => by simp at h
  | u :: l, v :: m, h => by
    by_cases h0 : kb u v = 0
    · rcases first_ne l m (by simpa using h) with ⟨k, x, y, h1, h2, h3, h4⟩ | h1
      · left
        refine ⟨k + 1, x, y, by simpa using h1, by simpa using h2, h3, fun j u' v' hj hu hv => ?_⟩
        cases j with
        | zero => simp at hu hv; subst hu; subst hv; exact h0
        | succ j => exact h4 j u' v' (by omega) (by simpa using hu) (by simpa using hv)
      · right
        intro j u' v' hu hv
        cases j with
        | zero => simp at hu hv; subst hu; subst hv; exact h0
        | succ j => exact h1 j u' v' (by simpa using hu) (by simpa using hv)
    · left; exact ⟨0, u, v, rfl, rfl, h0, fun j u v hj => by omega⟩
theorem vs_take_same : ∀ {l m : List Tm} {k : Nat}, k ≤ l.length → l.length = m.length → (∀ j u v, j < k → l[j]? = some u → m[j]? = some v → kb u v = 0) → ((l.take k).flatMap Tm.flat).length = ((m.take k).flatMap Tm.flat).length ∧ (l.take k).flatMap Tm.vs = (m.take k).flatMap Tm.vs
  | _, _, 0, _, _, _ => by simp
  | [], _, k + 1, h, _, _ => by simp at h
  | _ :: _, [], k + 1, _, h, _ => by simp at h
  | u :: l, v :: m, k + 1, h, hl, hi => by
    have h0 := (kb_zero u v).1 (hi 0 u v (by omega) rfl rfl)
    obtain ⟨h1, h2⟩ := vs_take_same (l := l) (m := m) (k := k) (by simpa using h) (by simpa using hl) fun j u v hj hu hv => hi (j + 1) u v (by omega) (by simpa using hu) (by simpa using hv)
    have h3 : u.flat.length = v.flat.length := by have := congrArg Tm.size h0; rw [Tm.strip_size, Tm.strip_size] at this; exact this
    have h4 : u.vs = v.vs := by have := congrArg Tm.vs h0; rw [Tm.strip_vs, Tm.strip_vs] at this; exact this
    rw [List.take_succ_cons, List.take_succ_cons, List.flatMap_cons, List.flatMap_cons, List.flatMap_cons, List.flatMap_cons, List.length_append, List.length_append, h1, h2, h3, h4]
    exact ⟨rfl, rfl⟩
theorem split_len {l : List Tm} {k : Nat} {x : Tm} (h : l[k]? = some x) : (l.flatMap Tm.flat).length = ((l.take k).flatMap Tm.flat).length + (x.size + ((l.drop (k + 1)).flatMap Tm.flat).length) ∧ ∀ v, (l.flatMap Tm.vs).count v = ((l.take k).flatMap Tm.vs).count v + (x.vs.count v + ((l.drop (k + 1)).flatMap Tm.vs).count v) := by
  obtain ⟨h1, _⟩ := split_at h
  constructor
  · conv => lhs; rw [h1]
    rw [List.flatMap_append, List.flatMap_cons, List.length_append, List.length_append]
    rfl
  · intro v
    conv => lhs; rw [h1]
    rw [List.flatMap_append, List.flatMap_cons, List.count_append, List.count_append]
theorem scS_spec (a : Tm) : ∀ b, Bds (scS a b) (a.size + b.size) ∧ (kb a b = 0 → scS a b = emp) ∧ (kb a b ≠ 0 → Ss (scS a b) (szD a b) (vD a b)) := by
  induction a using Tm.indp with
  | h a ih =>
    intro b
    by_cases h : a.f ≠ b.f ∨ a.ps.length ≠ b.ps.length
    · rw [scS_ne h]
      have h1 : Bds (addT (-1) (addT 1 emp a) b) (0 + a.size + b.size) := (emp_bds.addT (.inl rfl)).addT (.inr rfl)
      refine ⟨by rw [Nat.zero_add] at h1; exact h1, fun h2 => ?_, fun _ => ?_⟩
      · rw [kb_eq, verd_zero] at h2
        unfold wi at h2
        rw [if_pos h] at h2
        exact absurd h2 (hd_ne h)
      · have h2 := (emp_ss.fold (σ := 1) (l := a.flat)).fold (σ := -1) (l := b.flat)
        refine ⟨?_, h2.nd, h2.sp, h2.lk, fun v => ?_⟩
        · refine h2.sz.trans ?_
          unfold szD Tm.size; omega
        · refine (h2.at_ v).trans ?_
          unfold vD Tm.vs; omega
    · rw [scS_eq h]
      have hw : wi a b = kbs a.ps b.ps := by unfold wi; rw [if_neg h]
      have hll : a.ps.length = b.ps.length := by omega
      rcases first_ne a.ps b.ps hll with ⟨k, x, y, h1, h2, h3, h4⟩ | h1
      · obtain ⟨e1, e2⟩ := scs_at h1 h2 h3 h4
        obtain ⟨b1, b2, b3⟩ := ih x (List.mem_of_getElem? h1) y
        have hk : k < a.ps.length := by
          rcases Nat.lt_or_ge k a.ps.length with h | h
          · exact h
          · rw [List.getElem?_eq_none h] at h1; cases h1
        obtain ⟨v1, v2⟩ := vs_take_same (Nat.le_of_lt hk) hll h4
        obtain ⟨l1, l2⟩ := split_len h1
        obtain ⟨m1, m2⟩ := split_len h2
        have sa := a.size_eq
        have sb := b.size_eq
        rw [e1]
        refine ⟨?_, fun h5 => ?_, fun h5 => ?_⟩
        · have hB := ((b1.addL (.inl rfl) (l := a.ps.drop (k + 1))).addL (.inr rfl) (l := b.ps.drop (k + 1)))
          obtain ⟨q1, q2, q3, q4⟩ := hB
          exact ⟨by omega, by omega, by omega, fun v => by have := q4 v; omega⟩
        · rw [kb_eq, verd_zero, hw, e2] at h5
          exact absurd h5 h3
        · have h6 := ((b3 h3).fold (σ := 1) (l := (a.ps.drop (k + 1)).flatMap Tm.flat)).fold (σ := -1) (l := (b.ps.drop (k + 1)).flatMap Tm.flat)
          refine ⟨?_, h6.nd, h6.sp, h6.lk, fun v => ?_⟩
          · refine h6.sz.trans ?_
            unfold szD; omega
          · refine (h6.at_ v).trans ?_
            rw [vsL_flatMap, vsL_flatMap]
            have p1 := l2 v
            have p2 := m2 v
            rw [← v2] at p2
            have hf : a.f = b.f := by omega
            have ha : a.vs = a.ps.flatMap Tm.vs := by
              by_cases hv : a.f < 0
              · rw [Tm.ps_of_var hv] at hk; simp at hk
              · rw [Tm.vs_sym hv, Tm.ps_of_sym (by omega)]
            have hb : b.vs = b.ps.flatMap Tm.vs := by
              by_cases hv : b.f < 0
              · rw [Tm.ps_of_var (t := a) (by omega)] at hk; simp at hk
              · rw [Tm.vs_sym hv, Tm.ps_of_sym (by omega)]
            unfold vD
            rw [ha, hb]
            omega
      · obtain ⟨e1, e2⟩ := scs_none h1
        rw [e1]
        refine ⟨?_, fun _ => rfl, fun h5 => ?_⟩
        · obtain ⟨q1, q2, q3, q4⟩ := emp_bds
          exact ⟨by omega, by omega, by omega, fun v => by have := q4 v; omega⟩
        · exfalso
          apply h5
          rw [kb_eq, verd_zero, hw, e2]
theorem ord_same (z w : Int) : (if z ≠ 0 then cmpZ z 0 else w) = ordV z w := by
  unfold ordV
  rcases cmpZ_cases z 0 with h | h | h
  · rw [if_pos (by omega), if_neg (by omega), if_pos (by omega), h.1]
  · rw [if_neg (by omega), if_neg (by omega), if_neg (by omega)]
  · rw [if_pos (by omega), if_pos (by omega), h.1]
theorem vd_spec {s : Sc} {a b : Tm} (h : Ss s (szD a b) (vD a b)) {w : Int} (hw : w ≠ 0) : vdS s w = verd (szD a b) (cov a b) (cov b a) w := by
  have h1 : 0 < s.lk ↔ ¬ cov a b := by
    obtain ⟨d1, d2⟩ := dns_zero h.nd
    rw [h.lk]
    have : dnS s.mp = 0 ↔ cov a b := by
      rw [d2]
      unfold cov
      constructor
      · intro h2 v; have := h2 v; rw [h.at_] at this; unfold vD at this; omega
      · intro h2 v; have := h2 v; rw [h.at_]; unfold vD; omega
    rw [← this]; omega
  have h2 : 0 < s.sp ↔ ¬ cov b a := by
    obtain ⟨d1, d2⟩ := ups_zero h.nd
    rw [h.sp]
    have : upS s.mp = 0 ↔ cov b a := by
      rw [d2]
      unfold cov
      constructor
      · intro h2 v; have := h2 v; rw [h.at_] at this; unfold vD at this; omega
      · intro h2 v; have := h2 v; rw [h.at_]; unfold vD; omega
    rw [← this]; omega
  unfold vdS verd pickV ordS
  rw [if_neg hw, h.sz, ord_same]
  by_cases h3 : (ordV (szD a b) w = 1 ∧ ¬ cov a b) ∨ (ordV (szD a b) w = -1 ∧ ¬ cov b a)
  · rw [if_pos h3, if_pos (by rw [h1, h2]; exact h3)]
  · rw [if_neg h3, if_neg (by rw [h1, h2]; exact h3)]
-- 
set_option maxHeartbeats 1000000 in
theorem kCompare_abs : ∀ a : Tm, a.rng → a.ok → a.size ≤ 100000000000 → ∀ b : Tm, b.rng → b.ok → b.size ≤ 100000000000 → AFunO Try.prog 61 (sst emp) [.bp 350001 0 [], .val a.cw, .val b.cw] (.val (.i (kb a b))) (sst (scS a b)) := by
  intro a
  induction a using Tm.indp with
  | h a ih =>
  intro hr hok has b hbr hbok hbs
  have hok' := (Tm.ok_iff _).1 hok
  have hr' := (Tm.rng_iff _).1 hr
  have hbok' := (Tm.ok_iff _).1 hbok
  have hbr' := (Tm.rng_iff _).1 hbr
  have hsz := Tm.size_all a.ps
  have hsz2 := Tm.size_all b.ps
  have el : (a.ps.map Tm.cv).length = a.ps.length := List.length_map ..
  have el2 : (b.ps.map Tm.cv).length = b.ps.length := List.length_map ..
  have hla := a.len_ps
  have hlb := b.len_ps
  obtain ⟨S, hS⟩ : ∃ S, S = scS a b := ⟨_, rfl⟩
  obtain ⟨sp1, sp2, sp3⟩ := scS_spec a b
  refine afunO_of Try.func61 Try.ntmps61 rfl rfl rfl rfl rfl rfl ?_
  intro w U hU
  refine aS (aR ?_)
  (refine nx (a_box (gN rfl) rfl rfl rfl rfl rfl) rfl ?_)
  (refine nx (a_box (gN rfl) rfl rfl rfl rfl rfl) rfl ?_)
  (refine nx (aA (gN rfl) rfl rfl rfl rfl rfl) rfl ?_)
  show AWp _ _ _ _ _ _ _
  refine aS (aD (by kernel_rfl) (by kernel_rfl) ?_)
  (refine nx (aL (gN rfl) rfl rfl rfl rfl rfl rfl rfl rfl rfl rfl rfl rfl) rfl ?_)
  (refine nx (a_call (gN rfl) rfl rfl rfl rfl rfl (kParts_abs w a)) rfl ?_)
  (refine nx (aL (gN rfl) rfl rfl rfl rfl rfl rfl rfl rfl rfl rfl rfl rfl) rfl ?_)
  (refine nx (a_call (gN rfl) rfl rfl rfl rfl rfl (kParts_abs w b)) rfl ?_)
  (refine nx (aA (gN rfl) rfl rfl rfl rfl rfl) rfl ?_)
  (refine nx (aA (gN rfl) rfl rfl rfl rfl rfl) rfl ?_)
  refine ⟨by kernel_rfl, ?_⟩
  show AWp _ _ _ _ _ _ _
  refine AWp.wk (wk_sub (s' := (0, AV.bp 350001 0 []) :: (4, .bp 4 0 []) :: (100004, .bx a.cw) :: (5, .bp 5 0 []) :: (100005, .bx b.cw) :: (7, .val (.lst (a.ps.map Tm.cv))) :: (8, .val (.lst (b.ps.map Tm.cv))) :: sst emp) ⟨rfl, rfl, rfl, rfl, rfl, rfl, rfl, rfl, rfl, rfl, rfl, rfl, rfl, trivial⟩) ?_
  by_cases h : a.f ≠ b.f ∨ a.ps.length ≠ b.ps.length
  case pos =>
    have hw : wi a b = hdK a b := by unfold wi; rw [if_pos h]
    have hk0 : kb a b ≠ 0 := by rw [kb_eq, ne_eq, verd_zero, hw]; exact hd_ne h
    have hres : vdS (addT (-1) (addT 1 emp a) b) (hdK a b) = kb a b := by
      have := vd_spec (w := hdK a b) (by have := sp3 hk0; rw [scS_ne h] at this; exact this) (hd_ne h)
      rw [this, kb_eq, hw]
    rw [scS_ne h]
    by_cases hf : a.f ≠ b.f
    · have g : decide (a.f ≠ b.f) = true := by simpa using hf
      refine aS (aS (aR ?_))
      (refine nx (aF (gN rfl) rfl rfl rfl rfl rfl rfl rfl rfl rfl) rfl ?_)
      (refine nx (aLb (gN rfl) rfl rfl rfl rfl rfl rfl rfl rfl rfl rfl rfl rfl) rfl ?_)
      (refine nx (aF (gN rfl) rfl rfl rfl rfl rfl rfl rfl rfl rfl) rfl ?_)
      (refine nx (aLb (gN rfl) rfl rfl rfl rfl rfl rfl rfl rfl rfl rfl rfl rfl) rfl ?_)
      (refine nx (a_neq (gN rfl) rfl rfl rfl rfl rfl rfl) rfl ?_)
      (refine nx (aM (gN rfl) rfl rfl rfl rfl rfl) rfl ?_)
      (refine ⟨_, _, _, a_off (go_off rfl rfl rfl rfl (by first | rfl | assumption | (simp; done) | (simp [*]; done))) rfl rfl rfl, rfl, ?_⟩)
      (refine ⟨_, _, _, a_off (go_off rfl rfl rfl rfl (by first | rfl | assumption | (simp; done) | (simp [*]; done))) rfl rfl rfl, rfl, ?_⟩)
      (refine ⟨_, _, _, a_off (go_off rfl rfl rfl rfl (by first | rfl | assumption | (simp; done) | (simp [*]; done))) rfl rfl rfl, rfl, ?_⟩)
      (refine ⟨_, _, _, a_off (go_off rfl rfl rfl rfl (by first | rfl | assumption | (simp; done) | (simp [*]; done))) rfl rfl rfl, rfl, ?_⟩)
      (refine ⟨_, _, _, a_off (go_off rfl rfl rfl rfl (by first | rfl | assumption | (simp; done) | (simp [*]; done))) rfl rfl rfl, rfl, ?_⟩)
      (refine ⟨_, _, _, aPt (gN rfl) rfl rfl rfl rfl rfl ?hb rfl, rfl, ?_⟩; case hb => (first | rfl | assumption | (simp; done)))
      show AWp _ _ _ _ _ _ _
      refine aC rfl (fun hc => ?_) (fun hc => by cases hc)
      refine aS (aR ?_)
      (refine nx (aM (gN rfl) rfl rfl rfl rfl rfl) rfl ?_)
      (refine nx (aL (gN rfl) rfl rfl rfl rfl rfl rfl rfl rfl rfl rfl rfl rfl) rfl ?_)
      (refine nx (a_callO (gN rfl) rfl rfl rfl rfl rfl (kAdd_abs 1 (.inl rfl) a hr hok emp 0 emp_bds (by omega)) (by repeat (first | exact trivial | refine ⟨rfl, ?_⟩)) (sst_lend _) (sst_leave _) (by first | rfl | kernel_rfl) (by first | rfl | kernel_rfl) (hnb_of (by first | rfl | kernel_rfl))) rfl ?_)
      show AWp _ _ _ _ _ _ _
      refine aS (aR ?_)
      (refine nx (aM (gN rfl) rfl rfl rfl rfl rfl) rfl ?_)
      (refine nx (aL (gN rfl) rfl rfl rfl rfl rfl rfl rfl rfl rfl rfl rfl rfl) rfl ?_)
      (refine nx (a_callO (gN rfl) rfl rfl rfl rfl rfl (kAdd_abs (-1) (.inr rfl) b hbr hbok (addT 1 emp a) (0 + a.size) (emp_bds.addT (.inl rfl)) (by omega)) (by repeat (first | exact trivial | refine ⟨rfl, ?_⟩)) (sst_lend _) (sst_leave _) (by first | rfl | kernel_rfl) (by first | rfl | kernel_rfl) (hnb_of (by first | rfl | kernel_rfl))) rfl ?_)
      show AWp _ _ _ _ _ _ _
      refine aS (aR ?_)
      (refine nx (aM (gN rfl) rfl rfl rfl rfl rfl) rfl ?_)
      (refine nx (aL (gN rfl) rfl rfl rfl rfl rfl rfl rfl rfl rfl rfl rfl rfl) rfl ?_)
      (refine nx (aL (gN rfl) rfl rfl rfl rfl rfl rfl rfl rfl rfl rfl rfl rfl) rfl ?_)
      (refine nx (a_call (gN rfl) rfl rfl rfl rfl rfl (kHeads_abs w a b)) rfl ?_)
      (refine nx (a_callO (gN rfl) rfl rfl rfl rfl rfl (kVerdict_abs (addT (-1) (addT 1 emp a) b) (hdK a b)) (by repeat (first | exact trivial | refine ⟨rfl, ?_⟩)) (sst_lend _) (sst_leave _) (by first | rfl | kernel_rfl) (by first | rfl | kernel_rfl) (hnb_of (by first | rfl | kernel_rfl))) rfl ?_)
      (refine nx (aA (gN rfl) rfl rfl rfl rfl rfl) rfl ?_)
      show AWp _ _ _ _ _ _ _
      rw [hres]
      exact aT ⟨.inr rfl, _, Wk.refl _, rfl, rfl, rfl, rfl, rfl, rfl, rfl, trivial⟩
    · have g : decide (a.f ≠ b.f) = false := by simpa using hf
      refine aS (aS (aR ?_))
      (refine nx (aF (gN rfl) rfl rfl rfl rfl rfl rfl rfl rfl rfl) rfl ?_)
      (refine nx (aLb (gN rfl) rfl rfl rfl rfl rfl rfl rfl rfl rfl rfl rfl rfl) rfl ?_)
      (refine nx (aF (gN rfl) rfl rfl rfl rfl rfl rfl rfl rfl rfl) rfl ?_)
      (refine nx (aLb (gN rfl) rfl rfl rfl rfl rfl rfl rfl rfl rfl rfl rfl rfl) rfl ?_)
      (refine nx (a_neq (gN rfl) rfl rfl rfl rfl rfl rfl) rfl ?_)
      (refine nx (aM (gN rfl) rfl rfl rfl rfl rfl) rfl ?_)
      (refine nx (aM (gd_on rfl rfl rfl rfl (by first | rfl | assumption | (simp; done))) rfl rfl rfl rfl rfl) rfl ?_)
      (refine nx (a_len (gd_on rfl rfl rfl rfl (by first | rfl | assumption | (simp; done))) rfl rfl rfl rfl rfl rfl rfl) rfl ?_)
      (refine nx (aM (gd_on rfl rfl rfl rfl (by first | rfl | assumption | (simp; done))) rfl rfl rfl rfl rfl) rfl ?_)
      (refine nx (a_len (gd_on rfl rfl rfl rfl (by first | rfl | assumption | (simp; done))) rfl rfl rfl rfl rfl rfl rfl) rfl ?_)
      (refine nx (a_neq (gd_on rfl rfl rfl rfl (by first | rfl | assumption | (simp; done))) rfl rfl rfl rfl rfl rfl) rfl ?_)
      (refine ⟨_, _, _, aPf (gN rfl) rfl rfl rfl rfl rfl ?hb rfl, rfl, ?_⟩; case hb => (first | rfl | assumption | (simp; done)))
      show AWp _ _ _ _ _ _ _
      refine aC rfl (fun hc => ?_) (fun hc => ?_)
      case refine_2 =>
        exfalso
        have hc := of_decide_eq_false hc
        simp only [List.length_map, ne_eq, Decidable.not_not] at hc
        omega
      refine aS (aR ?_)
      (refine nx (aM (gN rfl) rfl rfl rfl rfl rfl) rfl ?_)
      (refine nx (aL (gN rfl) rfl rfl rfl rfl rfl rfl rfl rfl rfl rfl rfl rfl) rfl ?_)
      (refine nx (a_callO (gN rfl) rfl rfl rfl rfl rfl (kAdd_abs 1 (.inl rfl) a hr hok emp 0 emp_bds (by omega)) (by repeat (first | exact trivial | refine ⟨rfl, ?_⟩)) (sst_lend _) (sst_leave _) (by first | rfl | kernel_rfl) (by first | rfl | kernel_rfl) (hnb_of (by first | rfl | kernel_rfl))) rfl ?_)
      show AWp _ _ _ _ _ _ _
      refine aS (aR ?_)
      (refine nx (aM (gN rfl) rfl rfl rfl rfl rfl) rfl ?_)
      (refine nx (aL (gN rfl) rfl rfl rfl rfl rfl rfl rfl rfl rfl rfl rfl rfl) rfl ?_)
      (refine nx (a_callO (gN rfl) rfl rfl rfl rfl rfl (kAdd_abs (-1) (.inr rfl) b hbr hbok (addT 1 emp a) (0 + a.size) (emp_bds.addT (.inl rfl)) (by omega)) (by repeat (first | exact trivial | refine ⟨rfl, ?_⟩)) (sst_lend _) (sst_leave _) (by first | rfl | kernel_rfl) (by first | rfl | kernel_rfl) (hnb_of (by first | rfl | kernel_rfl))) rfl ?_)
      show AWp _ _ _ _ _ _ _
      refine aS (aR ?_)
      (refine nx (aM (gN rfl) rfl rfl rfl rfl rfl) rfl ?_)
      (refine nx (aL (gN rfl) rfl rfl rfl rfl rfl rfl rfl rfl rfl rfl rfl rfl) rfl ?_)
      (refine nx (aL (gN rfl) rfl rfl rfl rfl rfl rfl rfl rfl rfl rfl rfl rfl) rfl ?_)
      (refine nx (a_call (gN rfl) rfl rfl rfl rfl rfl (kHeads_abs w a b)) rfl ?_)
      (refine nx (a_callO (gN rfl) rfl rfl rfl rfl rfl (kVerdict_abs (addT (-1) (addT 1 emp a) b) (hdK a b)) (by repeat (first | exact trivial | refine ⟨rfl, ?_⟩)) (sst_lend _) (sst_leave _) (by first | rfl | kernel_rfl) (by first | rfl | kernel_rfl) (hnb_of (by first | rfl | kernel_rfl))) rfl ?_)
      (refine nx (aA (gN rfl) rfl rfl rfl rfl rfl) rfl ?_)
      show AWp _ _ _ _ _ _ _
      rw [hres]
      exact aT ⟨.inr rfl, _, Wk.refl _, rfl, rfl, rfl, rfl, rfl, rfl, rfl, trivial⟩
  case neg =>
    have hf : a.f = b.f := by omega
    have hll : a.ps.length = b.ps.length := by omega
    have hw : wi a b = kbs a.ps b.ps := by unfold wi; rw [if_neg h]
    have g : decide (a.f ≠ b.f) = false := by simpa using hf
    refine aS (aS (aR ?_))
    (refine nx (aF (gN rfl) rfl rfl rfl rfl rfl rfl rfl rfl rfl) rfl ?_)
    (refine nx (aLb (gN rfl) rfl rfl rfl rfl rfl rfl rfl rfl rfl rfl rfl rfl) rfl ?_)
    (refine nx (aF (gN rfl) rfl rfl rfl rfl rfl rfl rfl rfl rfl) rfl ?_)
    (refine nx (aLb (gN rfl) rfl rfl rfl rfl rfl rfl rfl rfl rfl rfl rfl rfl) rfl ?_)
    (refine nx (a_neq (gN rfl) rfl rfl rfl rfl rfl rfl) rfl ?_)
    (refine nx (aM (gN rfl) rfl rfl rfl rfl rfl) rfl ?_)
    (refine nx (aM (gd_on rfl rfl rfl rfl (by first | rfl | assumption | (simp; done))) rfl rfl rfl rfl rfl) rfl ?_)
    (refine nx (a_len (gd_on rfl rfl rfl rfl (by first | rfl | assumption | (simp; done))) rfl rfl rfl rfl rfl rfl rfl) rfl ?_)
    (refine nx (aM (gd_on rfl rfl rfl rfl (by first | rfl | assumption | (simp; done))) rfl rfl rfl rfl rfl) rfl ?_)
    (refine nx (a_len (gd_on rfl rfl rfl rfl (by first | rfl | assumption | (simp; done))) rfl rfl rfl rfl rfl rfl rfl) rfl ?_)
    (refine nx (a_neq (gd_on rfl rfl rfl rfl (by first | rfl | assumption | (simp; done))) rfl rfl rfl rfl rfl rfl) rfl ?_)
    (refine ⟨_, _, _, aPf (gN rfl) rfl rfl rfl rfl rfl ?hb rfl, rfl, ?_⟩; case hb => (first | rfl | assumption | (simp; done)))
    show AWp _ _ _ _ _ _ _
    refine aC rfl (fun hc => ?_) (fun hc => ?_)
    · exfalso
      have hc := of_decide_eq_true hc
      simp only [List.length_map, ne_eq] at hc
      omega
    refine aK ?_
    show AWp _ _ _ _ _ _ _
    refine aS (aS (aR ?_))
    (refine nx (aM (gN rfl) rfl rfl rfl rfl rfl) rfl ?_)
    (refine nx (a_len (gN rfl) rfl rfl rfl rfl rfl rfl rfl) rfl ?_)
    (refine nx (aM (gN rfl) rfl rfl rfl rfl rfl) rfl ?_)
    show AWp _ _ _ _ _ _ _
    refine aB (awp_countI a.ps.length (fun k => ∀ (j : Nat) u v, j < k → a.ps[j]? = some u → b.ps[j]? = some v → kb u v = 0) (fun k => (0, .bp 350001 0 []) :: (7, .val (.lst (a.ps.map Tm.cv))) :: (8, .val (.lst (b.ps.map Tm.cv))) :: (39, .val (.i (a.ps.map Tm.cv).length)) :: (40, .val (.i k)) :: sst emp) (wk_sub ⟨rfl, rfl, rfl, rfl, rfl, rfl, rfl, rfl, rfl, rfl, rfl, trivial⟩) (fun j u v hj => by omega) ?_)
    intro k hk hI
    refine aS (aR ?_)
    (refine nx (a_lss (gN rfl) rfl rfl rfl rfl rfl rfl) rfl ?_)
    show AWp _ _ _ _ _ _ _
    refine aS (aC rfl (fun hlt => ?_) (fun hlt => ?_))
    · have hkl : k < a.ps.length := by simpa using hlt
      obtain ⟨x, hx⟩ : ∃ x, a.ps[k]? = some x := ⟨a.ps[k], List.getElem?_eq_getElem hkl⟩
      obtain ⟨y, hy⟩ : ∃ y, b.ps[k]? = some y := ⟨b.ps[k]'(by omega), List.getElem?_eq_getElem (by omega)⟩
      have hx' := Tm.map_at hx
      have hy' := Tm.map_at hy
      have hxm := List.mem_of_getElem? hx
      have hym := List.mem_of_getElem? hy
      have hxs := Tm.size_part hxm
      have hys := Tm.size_part hym
      have hrec := ih x hxm (hr'.2 x (Tm.ps_mem hxm).1) (hok'.2 x (Tm.ps_mem hxm).1) (by omega) y (hbr'.2 y (Tm.ps_mem hym).1) (hbok'.2 y (Tm.ps_mem hym).1) (by omega)
      obtain ⟨q1, q2, q3⟩ := scS_spec x y
      refine aK ?_
      show AWp _ _ _ _ _ _ _
      refine aS (aB (aS (aR ?_)))
      (refine nx (aM (gN rfl) rfl rfl rfl rfl rfl) rfl ?_)
      (refine nx (aA (gN rfl) rfl rfl rfl rfl rfl) rfl ?_)
      show AWp _ _ _ _ _ _ _
      refine aS (aD (by kernel_rfl) (by kernel_rfl) ?_)
      (refine nx (aM (gN rfl) rfl rfl rfl rfl rfl) rfl ?_)
      (refine nx (aM (gN rfl) rfl rfl rfl rfl rfl) rfl ?_)
      (refine nx (aM (gN rfl) rfl rfl rfl rfl rfl) rfl ?_)
      (refine nx (a_index (j := k) (gN rfl) rfl rfl rfl rfl rfl rfl rfl rfl rfl (hx') rfl (hsz)) rfl ?_)
      (refine nx (a_load_ad (gN rfl) rfl rfl rfl rfl rfl rfl rfl rfl rfl) rfl ?_)
      (refine nx (aM (gN rfl) rfl rfl rfl rfl rfl) rfl ?_)
      (refine nx (aM (gN rfl) rfl rfl rfl rfl rfl) rfl ?_)
      (refine nx (a_index (j := k) (gN rfl) rfl rfl rfl rfl rfl rfl rfl rfl rfl (hy') rfl (hsz2)) rfl ?_)
      (refine nx (a_load_ad (gN rfl) rfl rfl rfl rfl rfl rfl rfl rfl rfl) rfl ?_)
      (refine nx (a_callO (gN rfl) rfl rfl rfl rfl rfl (hrec) (by repeat (first | exact trivial | refine ⟨rfl, ?_⟩)) (sst_lend _) (sst_leave _) (by first | rfl | kernel_rfl) (by first | rfl | kernel_rfl) (hnb_of (by first | rfl | kernel_rfl))) rfl ?_)
      (refine nx (aA (gN rfl) rfl rfl rfl rfl rfl) rfl ?_)
      refine ⟨by kernel_rfl, ?_⟩
      show AWp _ _ _ _ _ _ _
      refine aS (aR ?_)
      (refine nx (aM (gN rfl) rfl rfl rfl rfl rfl) rfl ?_)
      (refine nx (a_neq (gN rfl) rfl rfl rfl rfl rfl rfl) rfl ?_)
      show AWp _ _ _ _ _ _ _
      refine aC rfl (fun hc => ?_) (fun hc => ?_)
      · have hne : kb x y ≠ 0 := by simpa using hc
        obtain ⟨e1, e2⟩ := scs_at hx hy hne hI
        have hk0 : kb a b ≠ 0 := by rw [kb_eq, ne_eq, verd_zero, hw, e2]; exact hne
        obtain ⟨l1, l2⟩ := split_len hx
        obtain ⟨m1, m2⟩ := split_len hy
        have sa := a.size_eq
        have sb := b.size_eq
        have hA : ∀ t ∈ a.ps.drop (k + 1), t.rng ∧ t.ok := fun t ht => ⟨hr'.2 t (Tm.ps_mem (List.mem_of_mem_drop ht)).1, hok'.2 t (Tm.ps_mem (List.mem_of_mem_drop ht)).1⟩
        have hB : ∀ t ∈ b.ps.drop (k + 1), t.rng ∧ t.ok := fun t ht => ⟨hbr'.2 t (Tm.ps_mem (List.mem_of_mem_drop ht)).1, hbok'.2 t (Tm.ps_mem (List.mem_of_mem_drop ht)).1⟩
        have c1 := kAddAll_abs 1 (.inl rfl) (a.ps.drop (k + 1)) (by rw [List.length_drop]; omega) hA (scS x y) (x.size + y.size) q1 (by omega)
        have b1 := q1.addL (σ := 1) (.inl rfl) (l := a.ps.drop (k + 1))
        have c2 := kAddAll_abs (-1) (.inr rfl) (b.ps.drop (k + 1)) (by rw [List.length_drop]; omega) hB _ _ b1 (by omega)
        rw [List.map_drop] at c1 c2
        have hres : vdS (addL (-1) (addL 1 (scS x y) (a.ps.drop (k + 1))) (b.ps.drop (k + 1))) (kb x y) = kb a b := by
          have := vd_spec (w := kb x y) (by have := sp3 hk0; rw [scS_eq h, e1] at this; exact this) hne
          rw [this, kb_eq a b, hw, e2]
        refine aS (aR ?_)
        (refine nx (aM (gN rfl) rfl rfl rfl rfl rfl) rfl ?_)
        (refine nx (aM (gN rfl) rfl rfl rfl rfl rfl) rfl ?_)
        (refine nx (aM (gN rfl) rfl rfl rfl rfl rfl) rfl ?_)
        (refine nx (a_add (gN rfl) rfl rfl rfl rfl rfl rfl (by first | omega | (simp only [List.length_map, List.length_append, List.length_cons, List.length_nil] <;> omega) | (simp <;> omega))) rfl ?_)
        (refine nx (a_from (lo := k + 1) (gN rfl) rfl rfl rfl rfl rfl rfl rfl rfl rfl (by omega) (by first | assumption | exact sZ rfl | exact Tm.size_all _ | exact Bd.size_all _ | exact ints_size _ | exact bys_size _ | exact Lt.size_all _)) rfl ?_)
        (refine nx (a_callO (gN rfl) rfl rfl rfl rfl rfl (c1) (by repeat (first | exact trivial | refine ⟨rfl, ?_⟩)) (sst_lend _) (sst_leave _) (by first | rfl | kernel_rfl) (by first | rfl | kernel_rfl) (hnb_of (by first | rfl | kernel_rfl))) rfl ?_)
        show AWp _ _ _ _ _ _ _
        refine aS (aR ?_)
        (refine nx (aM (gN rfl) rfl rfl rfl rfl rfl) rfl ?_)
        (refine nx (aM (gN rfl) rfl rfl rfl rfl rfl) rfl ?_)
        (refine nx (aM (gN rfl) rfl rfl rfl rfl rfl) rfl ?_)
        (refine nx (a_add (gN rfl) rfl rfl rfl rfl rfl rfl (by first | omega | (simp only [List.length_map, List.length_append, List.length_cons, List.length_nil] <;> omega) | (simp <;> omega))) rfl ?_)
        (refine nx (a_from (lo := k + 1) (gN rfl) rfl rfl rfl rfl rfl rfl rfl rfl rfl (by omega) (by first | assumption | exact sZ rfl | exact Tm.size_all _ | exact Bd.size_all _ | exact ints_size _ | exact bys_size _ | exact Lt.size_all _)) rfl ?_)
        (refine nx (a_callO (gN rfl) rfl rfl rfl rfl rfl (c2) (by repeat (first | exact trivial | refine ⟨rfl, ?_⟩)) (sst_lend _) (sst_leave _) (by first | rfl | kernel_rfl) (by first | rfl | kernel_rfl) (hnb_of (by first | rfl | kernel_rfl))) rfl ?_)
        show AWp _ _ _ _ _ _ _
        refine aS (aR ?_)
        (refine nx (aM (gN rfl) rfl rfl rfl rfl rfl) rfl ?_)
        (refine nx (aM (gN rfl) rfl rfl rfl rfl rfl) rfl ?_)
        (refine nx (a_callO (gN rfl) rfl rfl rfl rfl rfl (kVerdict_abs _ (kb x y)) (by repeat (first | exact trivial | refine ⟨rfl, ?_⟩)) (sst_lend _) (sst_leave _) (by first | rfl | kernel_rfl) (by first | rfl | kernel_rfl) (hnb_of (by first | rfl | kernel_rfl))) rfl ?_)
        (refine nx (aA (gN rfl) rfl rfl rfl rfl rfl) rfl ?_)
        show AWp _ _ _ _ _ _ _
        rw [hres, scS_eq h, e1]
        exact aT ⟨.inr rfl, _, Wk.refl _, rfl, rfl, rfl, rfl, rfl, rfl, rfl, trivial⟩
      · have h0 : kb x y = 0 := by simpa using hc
        rw [q2 h0]
        refine aK ?_
        show AWp _ _ _ _ _ _ _
        refine aR ?_
        (refine nx (a_add (gN rfl) rfl rfl rfl rfl rfl rfl (by first | omega | (simp only [List.length_map, List.length_append, List.length_cons, List.length_nil] <;> omega) | (simp <;> omega))) rfl ?_)
        (refine nx (aM (gN rfl) rfl rfl rfl rfl rfl) rfl ?_)
        refine ⟨hkl, fun j u v hj hu hv => ?_, wk_sub ⟨rfl, rfl, rfl, rfl, rfl, rfl, rfl, rfl, rfl, rfl, rfl, trivial⟩⟩
        rcases Nat.lt_or_ge j k with h | h
        · exact hI j u v h hu hv
        · have : j = k := by omega
          subst this
          rw [hx] at hu
          rw [hy] at hv
          cases hu; cases hv
          exact h0
    · have hkl : k = a.ps.length := by
        have : ¬ k < a.ps.length := by simpa using hlt
        omega
      subst hkl
      obtain ⟨e1, e2⟩ := scs_none (l := a.ps) (m := b.ps) fun j u v hu hv => hI j u v (by
        rcases Nat.lt_or_ge j a.ps.length with h | h
        · exact h
        · rw [List.getElem?_eq_none h] at hu; cases hu) hu hv
      have h0 : kb a b = 0 := by rw [kb_eq, verd_zero, hw, e2]
      rw [h0, sp2 h0]
      refine aE ?_
      show AWp _ _ _ _ _ _ _
      refine aS (aR ?_)
      (refine nx (aA (gN rfl) rfl rfl rfl rfl rfl) rfl ?_)
      show AWp _ _ _ _ _ _ _
      exact aT ⟨.inr rfl, _, Wk.refl _, rfl, rfl, rfl, rfl, rfl, rfl, rfl, trivial⟩
theorem emp_st : sst emp = sstN 0 0 0 := sst_N rfl
-- 
theorem kCmp_abs (W : World) (a b : Tm) (hr : a.rng) (hok : a.ok) (hs : a.size ≤ 100000000000) (hbr : b.rng) (hbok : b.ok) (hbs : b.size ≤ 100000000000) : AFun Try.prog W 43 [a.cw, b.cw] (.val (.i (kb a b))) := by
  have hc := kCompare_abs a hr hok hs b hbr hbok hbs
  rw [emp_st] at hc
  refine afun_of (rs := [.i (kb a b)]) Try.func43 Try.ntmps43 rfl rfl rfl rfl ?_
  intro w U hW
  refine aS (aR ?_)
  (refine nx (a_box (gN rfl) rfl rfl rfl rfl rfl) rfl ?_)
  (refine nx (a_box (gN rfl) rfl rfl rfl rfl rfl) rfl ?_)
  (refine nx (aA (gN rfl) rfl rfl rfl rfl rfl) rfl ?_)
  show AWp _ _ _ _ _ _ _
  refine aS (aR ?_)
  (refine nx (a_alloc9N 350001 (gN rfl) rfl rfl rfl rfl rfl rfl rfl rfl rfl rfl rfl rfl (fun v h => by first | (rw [hW.1] at h; cases h) | (have h2 := hU _ v h; cases h2))) rfl ?_)
  show AWp _ _ _ _ _ _ _
  refine AWp.wk ((wk_sub (s' := [(2, AV.bp 2 0 []), (100002, .bx a.cw), (3, .bp 3 0 []), (100003, .bx b.cw), (5, .bp 350001 0 []), (450001, .obj), (35500100, .val (.i 0)), (35500101, .val (.sc (.map none))), (35500102, .val (.i 0)), (35500103, .val (.i 0))]) ⟨rfl, rfl, rfl, rfl, rfl, by kernel_rfl, by kernel_rfl, by kernel_rfl, by kernel_rfl, by kernel_rfl, trivial⟩).trans (wk_nmap 35500101 300001 rfl rfl rfl (by kernel_rfl) (by kernel_rfl))) ?_
  refine aS (aR ?_)
  (refine nx (aL (gN rfl) rfl rfl rfl rfl rfl rfl rfl rfl rfl rfl rfl rfl) rfl ?_)
  (refine nx (aL (gN rfl) rfl rfl rfl rfl rfl rfl rfl rfl rfl rfl rfl rfl) rfl ?_)
  (refine nx (a_callO (gN rfl) rfl rfl rfl rfl rfl (hc) (by repeat (first | exact trivial | refine ⟨rfl, ?_⟩)) (by kernel_rfl) (sst_leave _) (by first | rfl | kernel_rfl) (by first | rfl | kernel_rfl) (hnb_of (by first | rfl | kernel_rfl))) rfl ?_)
  (refine nx (aA (gN rfl) rfl rfl rfl rfl rfl) rfl ?_)
  show AWp _ _ _ _ _ _ _
  exact aT ⟨.inr rfl, rfl⟩
-- 
theorem kGreater_abs (W : World) (a b : Tm) (hr : a.rng) (hok : a.ok) (hs : a.size ≤ 100000000000) (hbr : b.rng) (hbok : b.ok) (hbs : b.size ≤ 100000000000) : AFun Try.prog W 26 [a.cw, b.cw] (.val (.b (decide (kb a b = 1)))) := by
  refine afun_of (rs := [.b (decide (kb a b = 1))]) Try.func26 Try.ntmps26 rfl rfl rfl rfl ?_
  intro w U hW
  refine aS (aR ?_)
  (refine nx (a_box (gN rfl) rfl rfl rfl rfl rfl) rfl ?_)
  (refine nx (a_box (gN rfl) rfl rfl rfl rfl rfl) rfl ?_)
  (refine nx (aA (gN rfl) rfl rfl rfl rfl rfl) rfl ?_)
  show AWp _ _ _ _ _ _ _
  refine aS (aR ?_)
  (refine nx (aL (gN rfl) rfl rfl rfl rfl rfl rfl rfl rfl rfl rfl rfl rfl) rfl ?_)
  (refine nx (aL (gN rfl) rfl rfl rfl rfl rfl rfl rfl rfl rfl rfl rfl rfl) rfl ?_)
  (refine nx (a_call (gN rfl) rfl rfl rfl rfl rfl (kCmp_abs w a b hr hok hs hbr hbok hbs)) rfl ?_)
  (refine nx (a_eql (gN rfl) rfl rfl rfl rfl rfl rfl) rfl ?_)
  (refine nx (aA (gN rfl) rfl rfl rfl rfl rfl) rfl ?_)
  show AWp _ _ _ _ _ _ _
  exact aT ⟨.inr rfl, rfl⟩
noncomputable def covB (a b : Tm) : Bool := haveI := Classical.propDecidable; decide (cov a b)
theorem covB_iff (a b : Tm) : covB a b = true ↔ cov a b := by unfold covB; simp


end Go.Proofs.Ytekboofbedakcaa
namespace Go.Proofs.Ytekboofbedakcaa
open Go.RowKit
set_option linter.unusedVariables false
set_option linter.unusedSimpArgs false

end Go.Proofs.Ytekboofbedakcaa
namespace Go.Proofs.Ytekboofbedakcaa
open Go.RowKit
set_option linter.unusedVariables false
set_option linter.unusedSimpArgs false
set_option maxRecDepth 100000


end Go.Proofs.Ytekboofbedakcaa
namespace Go.Proofs.Ytekboofbedakcaa
set_option linter.unusedVariables false
theorem findB_has {L : List Bd} {v : Int} {u : Tm} (h : findB L v = some u) : v ∈ L.map Bd.v := by
  induction L with
  | nil => cases h
  | cons b L ih =>
    rw [findB] at h
    split at h
    · rename_i e; rw [← e]; simp
    · exact List.mem_cons_of_mem _ (ih h)
theorem findB_not {L : List Bd} {v : Int} (h : findB L v = none) : v ∉ L.map Bd.v := by
  induction L with
  | nil => simp
  | cons b L ih =>
    rw [findB] at h
    split at h
    · cases h
    · rename_i e
      rw [List.map_cons, List.mem_cons]
      rintro (h1 | h1)
      · exact e h1.symm
      · exact ih h h1
theorem bindM_names {L : List Bd} {v : Int} {t : Tm} : (bindM L v t).2.map Bd.v = nubS (L.map Bd.v) v := by
  unfold bindM nubS
  split
  · rename_i u hu; rw [if_pos (findB_has hu)]
  · rename_i hu; rw [if_neg (findB_not hu)]; simp
theorem mts_names : ∀ {ps ts : List Tm} {L : List Bd}, (∀ p ∈ ps, ∀ t L, (mt p t L).1 = true → (mt p t L).2.map Bd.v = p.vs.foldl nubS (L.map Bd.v)) → ps.length = ts.length → (mts ps ts L).1 = true → (mts ps ts L).2.map Bd.v = (ps.flatMap Tm.vs).foldl nubS (L.map Bd.v)
  | [], _, _, _, _, _ => rfl
  | _ :: _, [], _, _, h, _ => by simp at h
  | p :: ps, t :: ts, L, ih, hl, h => by
    rw [mts_cons] at h ⊢
    cases h1 : (mt p t L).1 with
    | false => rw [pairM_f h1] at h; cases h
    | true =>
      rw [pairM_t h1] at h ⊢
      rw [mts_names (fun q hq => ih q (List.mem_cons_of_mem _ hq)) (by simpa using hl) h, ih p (by simp) t L h1, List.flatMap_cons, List.foldl_append]
theorem mt_names (p : Tm) : ∀ t L, (mt p t L).1 = true → (mt p t L).2.map Bd.v = p.vs.foldl nubS (L.map Bd.v) := by
  induction p using Tm.ind with
  | h f l ih =>
    intro t L h
    by_cases hf : f < 0
    · rw [mt_var _ _ hf, Tm.vs_var hf, bindM_names]; rfl
    · by_cases h2 : f ≠ t.f ∨ l.length ≠ t.l.length
      · rw [mt_ne _ hf h2] at h; cases h
      · rw [mt_sym _ hf (by show f = _; omega) (by show l.length = _; omega)] at h ⊢
        rw [Tm.vs_sym hf]
        exact mts_names ih (by show l.length = _; omega) h
theorem mt_nv {p t : Tm} (h : (mt p t []).1 = true) : (mt p t []).2.map Bd.v = p.nv := mt_names p t [] h

theorem mts_size : ∀ {ps ts : List Tm} {L : List Bd} {n : Nat}, (∀ p ∈ ps, ∀ t L, ∀ b ∈ (mt p t L).2, b ∈ L ∨ b.t.size ≤ t.size) → (∀ t ∈ ts, t.size ≤ n) → ∀ b ∈ (mts ps ts L).2, b ∈ L ∨ b.t.size ≤ n
  | [], _, _, _, _, _, b, hb => .inl hb
  | _ :: _, [], _, _, _, _, b, hb => .inl hb
  | p :: ps, t :: ts, L, n, ih, hn, b, hb => by
    rw [mts_cons] at hb
    have h0 : b ∈ (mt p t L).2 → b ∈ L ∨ b.t.size ≤ n := fun hb => (ih p (by simp) t L b hb).imp id fun h => Nat.le_trans h (hn t (by simp))
    cases h1 : (mt p t L).1 with
    | false => rw [pairM_f h1] at hb; exact h0 hb
    | true =>
      rw [pairM_t h1] at hb
      rcases mts_size (fun q hq => ih q (List.mem_cons_of_mem _ hq)) (fun q hq => hn q (List.mem_cons_of_mem _ hq)) b hb with h | h
      · exact h0 h
      · exact .inr h
theorem mt_size (p : Tm) : ∀ t L, ∀ b ∈ (mt p t L).2, b ∈ L ∨ b.t.size ≤ t.size := by
  induction p using Tm.ind with
  | h f l ih =>
    intro t L b hb
    by_cases hf : f < 0
    · rw [mt_var _ _ hf] at hb
      unfold bindM at hb
      split at hb
      · exact .inl hb
      · rcases List.mem_append.1 hb with hb | hb
        · exact .inl hb
        · rw [List.mem_singleton] at hb; rw [hb]; exact .inr (Nat.le_refl _)
    · by_cases h2 : f ≠ t.f ∨ l.length ≠ t.l.length
      · rw [mt_ne _ hf h2] at hb; exact .inl hb
      · rw [mt_sym _ hf (by show f = _; omega) (by show l.length = _; omega)] at hb
        refine mts_size ih (fun s hs => ?_) b hb
        have : s ∈ t.ps := by rw [Tm.ps_of_sym (by omega)]; exact hs
        exact Nat.le_of_lt (Tm.size_part this)
theorem mts_okL : ∀ {ps ts : List Tm} {L : List Bd}, (∀ p ∈ ps, ∀ t L, t.ok → ∀ b ∈ (mt p t L).2, b ∈ L ∨ b.t.ok) → (∀ t ∈ ts, t.ok) → ∀ b ∈ (mts ps ts L).2, b ∈ L ∨ b.t.ok
  | [], _, _, _, _, b, hb => .inl hb
  | _ :: _, [], _, _, _, b, hb => .inl hb
  | p :: ps, t :: ts, L, ih, hn, b, hb => by
    rw [mts_cons] at hb
    have h0 : b ∈ (mt p t L).2 → b ∈ L ∨ b.t.ok := fun hb => ih p (by simp) t L (hn t (by simp)) b hb
    cases h1 : (mt p t L).1 with
    | false => rw [pairM_f h1] at hb; exact h0 hb
    | true =>
      rw [pairM_t h1] at hb
      rcases mts_okL (fun q hq => ih q (List.mem_cons_of_mem _ hq)) (fun q hq => hn q (List.mem_cons_of_mem _ hq)) b hb with h | h
      · exact h0 h
      · exact .inr h
theorem mt_okL (p : Tm) : ∀ t L, t.ok → ∀ b ∈ (mt p t L).2, b ∈ L ∨ b.t.ok := by
  induction p using Tm.ind with
  | h f l ih =>
    intro t L ht b hb
    by_cases hf : f < 0
    · rw [mt_var _ _ hf] at hb
      unfold bindM at hb
      split at hb
      · exact .inl hb
      · rcases List.mem_append.1 hb with hb | hb
        · exact .inl hb
        · rw [List.mem_singleton] at hb; rw [hb]; exact .inr ht
    · by_cases h2 : f ≠ t.f ∨ l.length ≠ t.l.length
      · rw [mt_ne _ hf h2] at hb; exact .inl hb
      · rw [mt_sym _ hf (by show f = _; omega) (by show l.length = _; omega)] at hb
        exact mts_okL ih (fun s hs => ((Tm.ok_iff _).1 ht).2 s hs) b hb

theorem ext_self (L : List Bd) : Ext L (imgB L) := fun v u h => by unfold imgB; rw [h]; rfl
theorem findB_cl (L : List Bd) (v : Int) : findB (L.map fun b => ⟨b.v, b.t.strip⟩) v = (findB L v).map Tm.strip := by
  induction L with
  | nil => rfl
  | cons b L ih =>
    rw [List.map_cons, findB, findB]
    split
    · rfl
    · exact ih
theorem mt_self {p t : Tm} {M : Int → Tm} (h : repT M p = t.strip) : (mt p t []).1 = true := (mt_most M p t [] (fun v u h => by cases h) h).1
theorem mt_rep {p t : Tm} (h : (mt p t []).1 = true) : repT (imgB (mt p t []).2) p = t.strip := mt_sound _ p t [] h (ext_self _)
end Go.Proofs.Ytekboofbedakcaa
namespace Go.Proofs.Ytekboofbedakcaa
open Go.RowKit Go.MapKept
set_option linter.unusedVariables false
set_option linter.unusedSimpArgs false
set_option maxRecDepth 100000
def AFunS (P : Program) (n : Nat) (f : FuncId) (pre : AS) (args : List AV) (r : AV) (post : AS) : Prop :=
  EntF P f ∧ ∀ (U : UX) (w : World) (hv : Nat → Value) (a0 : Act) (vs : List Value), n ≤ w.heap.size → (∀ k v, U.f k = some v → hasN (kO pre) k = true) → SimG w U 0 pre a0 w (fun _ _ => False) hv → AVReps (Us w U (fun _ _ => False)) w hv (LiveN pre) args vs →
    Calls P f vs.toArray w fun e w' => ∃ v D' hv' a', e = .returned v ∧ SimG w U 0 post a' w' D' hv' ∧ AVRep (Us w U D') w' hv' (LiveN post) r v
section
variable {P : Program} {w0 : World} {U0 : UX} {nt : Nat} {ops : Array Oper} {o : Oper} {S : Nat → Option AV} {gs : List Nat} {d : Nat}
theorem a_callS {n : Nat} (hn0 : n ≤ w0.heap.size) {f : FuncId} {xs : Array Operand} {ts : Array TypeId} {avs : List AV} {r : AV} {pre post : AS} (hg : Gd w0 U0 nt ops o gs S) (hd : o.dst = some d) (hn : Nat.blt d nt = true) (h5 : Nat.blt d 100000 = true)
    (ho : o.op = .call { callee := .value (.func f), args := xs, argTypes := ts }) (hx : evsA S xs.toList = some avs) (hc : AFunS P n f pre avs r post) (hp : SubS S pre) (hl : pre.all lendB = true) (hq : post.all (leaveB (kO post)) = true) (hks : (kO pre).all (hasN (kO post)) = true) (hr : refB (kO post) r = true) (hnb : ∀ k v, U0.f k = some v → hasN (kO post) k = true → hasN (kO pre) k = true) :
    AOp P w0 U0 nt ops o (gs ++ (rdl xs.toList ++ kO pre)) (newN (kO pre) (kO post) (kO post)) S ((d, r) :: post) := by
  intro s hs hN a w ⟨D, hv, h⟩ Q K hK
  rw [if_pos (hg s (fun k hk => hs k (List.mem_append_left _ hk)) a w D hv h)]
  have hargs := evsA_rep h (fun k hk => hs k (List.mem_append_right _ (List.mem_append_left _ hk))) hx
  have hsub : Sub s pre := fun k av h1 => (hs k (List.mem_append_right _ (List.mem_append_right _ (mem_keys h1)))).trans (hp.look h1)
  obtain ⟨V, v1, v2, v3, v4, v5, v6⟩ := h.lend hsub hl
  obtain ⟨h1, h2⟩ := hc
  have hcall := h2 V w hv ⟨#[], []⟩ _ (Nat.le_trans hn0 h.below.size) v1 v2 (hargs.imp fun c _ v hcv => hcv.move v6 (fun _ h3 => h3.imp id fun ⟨e, he⟩ => ⟨e, hsub _ _ he.1, he.2⟩) fun _ => rfl)
  have he : (execOp a.eval o).run P w = .ok (.enter f (xs.toList.map a.eval).toArray) w := by
    have hf : a.eval (.func f) = .func (.func f) #[] #[] := rfl
    have hen := h1 (xs.map a.eval) w
    have harr : (xs.toList.map a.eval).toArray = xs.map a.eval := by apply Array.ext'; simp
    rw [harr]
    generalize a.eval = ρ at hf hen ⊢
    simp [execOp, ho, resolve, invoke, Deferred.ofValue, hf, hen]
  unfold Oper.wp
  rw [he, Oper.upon_enter]
  refine hcall.mono ?_
  rintro e w' ⟨v, D', hv', a', rfl, h6, h7⟩
  rw [hd]
  obtain ⟨D2, hv2, h8, h9⟩ := h.back hsub hl hq hks hN hnb v3 v4 v5 v2 h6
  exact hK _ _ ⟨D2, hv2, h8.put (bL hn) (bL h5) (h9.1 r v hr h7)⟩
end

structure RuT where
  id : Int
  a : Tm
  b : Tm
noncomputable abbrev RuT.cw (r : RuT) : CV := .row [.i r.id, r.a.cw, r.b.cw]
noncomputable def RuT.cv (r : RuT) : CV := r.cw
theorem RuT.size_all (l : List RuT) : ∀ c ∈ l.map RuT.cv, c.size = 5 := by
  intro c hc
  obtain ⟨b, _, rfl⟩ := List.mem_map.1 hc
  rfl
theorem RuT.map_at {l : List RuT} {i : Nat} {b : RuT} (h : l[i]? = some b) : (l.map RuT.cv)[i]? = some b.cw := by rw [List.getElem?_map, h]; rfl
noncomputable def Bd.ev (b : Bd) : CV := .row [.sc (.int .i64 b.v), b.t.cw]
theorem ev_keys (L : List Bd) : IntKeys .i64 (L.map Bd.ev) := by
  intro r hr
  obtain ⟨b, _, rfl⟩ := List.mem_map.1 hr
  exact ⟨_, _, rfl⟩
theorem look_ev (v : Int) : ∀ L : List Bd, lookR .i64 v (L.map Bd.ev) = (findB L v).map Tm.cw
  | [] => rfl
  | b :: L => by
    rw [List.map_cons, show b.ev = .row [.sc (.int .i64 b.v), b.t.cw] from rfl, lookR_row, findB, look_ev v L]
    split <;> rfl
theorem put_ev (v : Int) (c : CV) : ∀ L : List Bd, findB L v = none → putR .i64 v c (L.map Bd.ev) = L.map Bd.ev ++ [.row [.sc (.int .i64 v), c]]
  | [], _ => rfl
  | b :: L, h => by
    rw [findB] at h
    split at h
    · cases h
    · rename_i hne
      rw [List.map_cons, show b.ev = .row [.sc (.int .i64 b.v), b.t.cw] from rfl, putR_row, if_neg hne, put_ev v c L h]
      rfl
theorem fill_rep (B : Int → Option Tm) : ∀ t : Tm, fillB B t = repT (fun v => (B v).getD ⟨0, []⟩) t := by
  intro t
  induction t using Tm.ind with
  | h f l ih =>
    rw [fillB_eq]
    by_cases hf : f < 0
    · rw [if_pos hf, repT_var (t := ⟨f, l⟩) hf]
    · rw [if_neg hf, repT_sym (t := ⟨f, l⟩) hf, List.map_congr_left ih]

theorem rng_strip17 : ∀ t : Tm, t.rng → t.strip.rng := by
  intro t
  induction t using Tm.ind with
  | h f l ih =>
    intro h
    rw [Tm.rng_iff] at h ⊢
    rw [Tm.strip_f, Tm.strip_l]
    refine ⟨h.1, fun s hs => ?_⟩
    obtain ⟨u, hu, rfl⟩ := List.mem_map.1 hs
    exact ih u (Tm.ps_mem hu).1 (h.2 u (Tm.ps_mem hu).1)
theorem rep_cs {f g : Int → Tm} : ∀ t : Tm, (∀ v ∈ t.vs, (f v).strip = (g v).strip) → repT f t = repT g t := by
  intro t
  induction t using Tm.ind with
  | h n l ih =>
    intro h
    by_cases hn : n < 0
    · rw [repT_var (t := ⟨n, l⟩) hn, repT_var (t := ⟨n, l⟩) hn]
      exact h _ (by rw [Tm.vs_var (t := ⟨n, l⟩) hn]; simp)
    · rw [repT_sym (t := ⟨n, l⟩) hn, repT_sym (t := ⟨n, l⟩) hn]
      rw [List.map_congr_left fun x hx => ih x hx fun v hv => h v (by rw [Tm.vs_sym (t := ⟨n, l⟩) hn]; exact List.mem_flatMap.2 ⟨x, hx, hv⟩)]

theorem filledS_abs (n : Nat) (L : List Bd) (t : Tm) (hr : t.rng) (hL : ∀ b ∈ L, b.t.rng) (hF : FillOk (findB L) t) (s : Tm) (hs : fillB (findB L) t = s) : AFunS Try.prog n 68 [(400002, .mp (L.map Bd.ev))] [.val t.cw, .mref 400002] (.val (.row [.i s.f, .own n (s.l.map Tm.cv)])) [(400002, .mp (L.map Bd.ev))] := by
  refine ⟨ent_of Try.func68 rfl rfl, ?_⟩
  rintro U w hv a0 vs hn hU hS ⟨u1, us1, rfl, h1, u2, us2, rfl, h2, h3⟩
  have h3 : us2 = [] := h3
  subst h3
  have h1 : VRep (Us w U fun _ _ => False) w t.cw u1 := h1.1
  obtain ⟨a, m, c, rfl, hta⟩ := tat_of_vrep hr h1
  have h2 : RN 400002 ∧ u2 = hv 400002 ∧ u2.oneCell' = true := h2
  obtain ⟨g, es, clock, g1, g2, g3, g4, g5⟩ : ∃ g es clock, hv 400002 = .map (some g) ∧ w.heap[g]? = some (.map es clock) ∧ Ents (Us w U fun _ _ => False) w (L.map Bd.ev) es.toList ∧ (∀ e ∈ es, e.born < clock) ∧ (es.toList.map (fun e : MapEntry => e.born)).Nodup := hS.obj 400002 _ (lS _ _ _) (by unfold oKey; omega)
  have hM : MapT w g (findB L) := by
    refine ⟨es, clock, g2, fun v s hv => ?_⟩
    have hk := look_ev v L
    rw [hv] at hk
    rcases find_spec 0 g3 (ev_keys L) (i := v) with ⟨_, f2⟩ | ⟨j, e, c, f1, f2, f3, f4, f5, f6⟩
    · rw [f2] at hk; cases hk
    · rw [f6] at hk
      have hc : c = s.cw := by simpa using hk
      subst hc
      have hsr : s.rng := by
        have : ∀ L : List Bd, (∀ b ∈ L, b.t.rng) → findB L v = some s → s.rng := by
          intro L
          induction L with
          | nil => intro _ h; cases h
          | cons b L ih =>
            intro h1 h2
            rw [findB] at h2
            split at h2
            · cases h2; exact h1 b (by simp)
            · exact ih (fun b hb => h1 b (List.mem_cons_of_mem _ hb)) h2
        exact this L hL hv
      obtain ⟨a', n', c', e1, e2⟩ := tat_of_vrep hsr f4
      exact ⟨j, a', n', c', by rw [f1, e1, Nat.zero_add], e2⟩
  rw [h2.2.1, g1]
  refine (filledX_any t _ a m c w hta hM hF).mono ?_
  rintro e w' ⟨x, a', n', c', hxt, hxf, hxh, rfl, hxr, hxn, _, hb⟩
  rw [hs] at hxt hxf ⊢
  refine ⟨_, Dn (fun _ _ => False) w w', hv, a0, rfl, hS.growN hb, avrep_val ?_⟩
  refine vrep_row.2 ⟨[.int .i64 s.f, .slice a' n' c'], rfl, ?_⟩
  refine ⟨[.int .i64 s.f], [.slice a' n' c'], rfl, rep_int _ _, [.slice a' n' c'], [], rfl, rep_own.2 ⟨x, by rw [hxh], by rw [cvs_tm, ← XT.tm_l, hxt], hxr.keepB fun b o v hb2 hu hc => ⟨⟨.inr ⟨hu, .inr ⟨hu, (hxr.lt b hb2).1⟩⟩, by omega⟩, hc⟩, hxn⟩, rfl⟩

theorem fillOk_of {L : List Bd} (hL : ∀ b ∈ L, b.t.size ≤ 90000000000) : ∀ t : Tm, t.ok → (∀ v ∈ t.vs, (findB L v).isSome) → FillOk (findB L) t := by
  intro t
  induction t using Tm.ind with
  | h f l ih =>
    intro hok hv
    rw [fillOk_iff]
    by_cases hf : f < 0
    · rw [if_pos (show (Tm.mk f l).f < 0 from hf)]
      have := hv (-1 - f) (by rw [Tm.vs_var (t := ⟨f, l⟩) hf]; simp)
      obtain ⟨s, hs⟩ := Option.isSome_iff_exists.1 this
      refine ⟨s, hs, ?_⟩
      have : ∀ L : List Bd, (∀ b ∈ L, b.t.size ≤ 90000000000) → findB L (-1 - f) = some s → s.size ≤ 90000000000 := by
        intro L
        induction L with
        | nil => intro _ h; cases h
        | cons b L ih =>
          intro h1 h2
          rw [findB] at h2
          split at h2
          · cases h2; exact h1 b (by simp)
          · exact ih (fun b hb => h1 b (List.mem_cons_of_mem _ hb)) h2
      exact this L hL hs
    · rw [if_neg (show ¬ (Tm.mk f l).f < 0 from hf)]
      rw [Tm.ok] at hok
      exact ⟨by show l.length ≤ _; omega, fun x hx => ih x hx (hok.2 x hx) fun v hvx => hv v (by rw [Tm.vs_sym (t := ⟨f, l⟩) hf]; exact List.mem_flatMap.2 ⟨x, hx, hvx⟩)⟩

-- 
theorem wAtNo_abs (W : World) (r : RuT) (t : Tm) (har : r.a.rng) (hao : r.a.ok) (hav : r.a.vs.length ≤ 65) (htr : t.rng) (hts : t.size ≤ 90000000000) (hm : (mt r.a t []).1 = false) : AFun Try.prog W 51 [r.cw, t.cw] (.tup [.row [.i 0, .lst []], .b false]) := by
  have hM : ∀ w, AFun Try.prog w 67 [.lst [], r.a.cw, t.cw] (.tup [.lst ((matchL [] r.a t).map Bd.cv), .b false]) := fun w => by
    have := mMatchF_abs w [] r.a t har hao htr (by simpa using hav) (fun b hb => by cases hb) (fun b hb => by
      rcases mt_size r.a t [] b hb with h | h
      · cases h
      · omega)
    rw [hm] at this
    exact this
  refine afun_of (rs := [.row [.i 0, .lst []], .b false]) Try.func51 Try.ntmps51 rfl rfl rfl rfl ?_
  intro w U hW
  refine aS (aR ?_)
  (refine nx (a_box (gN rfl) rfl rfl rfl rfl rfl) rfl ?_)
  (refine nx (a_box (gN rfl) rfl rfl rfl rfl rfl) rfl ?_)
  (refine nx (a_alloc (gN rfl) rfl rfl rfl rfl rfl rfl rfl rfl rfl rfl) rfl ?_)
  (refine nx (aA (gN rfl) rfl rfl rfl rfl rfl) rfl ?_)
  show AWp _ _ _ _ _ _ _
  refine aS (aR ?_)
  (refine nx (aF (gN rfl) rfl rfl rfl rfl rfl rfl rfl rfl rfl) rfl ?_)
  (refine nx (aLb (gN rfl) rfl rfl rfl rfl rfl rfl rfl rfl rfl rfl rfl rfl) rfl ?_)
  (refine nx (aL (gN rfl) rfl rfl rfl rfl rfl rfl rfl rfl rfl rfl rfl rfl) rfl ?_)
  (refine nx (a_call (gN rfl) rfl rfl rfl rfl rfl (hM w)) rfl ?_)
  (refine nx (aM (gN rfl) rfl rfl rfl rfl rfl) rfl ?_)
  (refine nx (aX (gN rfl) rfl rfl rfl rfl rfl rfl) rfl ?_)
  (refine nx (aX (gN rfl) rfl rfl rfl rfl rfl rfl) rfl ?_)
  (refine nx (aA (gN rfl) rfl rfl rfl rfl rfl) rfl ?_)
  (refine nx (aA (gN rfl) rfl rfl rfl rfl rfl) rfl ?_)
  show AWp _ _ _ _ _ _ _
  refine aS (aS (aR ?_))
  (refine nx (aM (gN rfl) rfl rfl rfl rfl rfl) rfl ?_)
  (refine nx (a_not (gN rfl) rfl rfl rfl rfl rfl) rfl ?_)
  (refine nx (aM (gN rfl) rfl rfl rfl rfl rfl) rfl ?_)
  (refine ⟨_, _, _, a_off (go_off rfl rfl rfl rfl (by first | rfl | assumption | (simp; done) | (simp [*]; done))) rfl rfl rfl, rfl, ?_⟩)
  (refine ⟨_, _, _, a_off (go_off rfl rfl rfl rfl (by first | rfl | assumption | (simp; done) | (simp [*]; done))) rfl rfl rfl, rfl, ?_⟩)
  (refine ⟨_, _, _, a_off (go_off rfl rfl rfl rfl (by first | rfl | assumption | (simp; done) | (simp [*]; done))) rfl rfl rfl, rfl, ?_⟩)
  (refine ⟨_, _, _, a_off (go_off rfl rfl rfl rfl (by first | rfl | assumption | (simp; done) | (simp [*]; done))) rfl rfl rfl, rfl, ?_⟩)
  (refine ⟨_, _, _, a_off (go_off rfl rfl rfl rfl (by first | rfl | assumption | (simp; done) | (simp [*]; done))) rfl rfl rfl, rfl, ?_⟩)
  (refine ⟨_, _, _, a_off (go_off rfl rfl rfl rfl (by first | rfl | assumption | (simp; done) | (simp [*]; done))) rfl rfl rfl, rfl, ?_⟩)
  (refine ⟨_, _, _, aPt (gN rfl) rfl rfl rfl rfl rfl ?hb rfl, rfl, ?_⟩; case hb => (first | rfl | assumption | (simp; done)))
  show AWp _ _ _ _ _ _ _
  refine aC rfl (fun _ => ?_) (fun hc => by cases hc)
  refine aS (aR ?_)
  (refine nx (a_build (gN rfl) rfl rfl rfl rfl rfl rfl rfl rfl rfl rfl rfl) rfl ?_)
  (refine nx (aSt (gN rfl) rfl rfl rfl rfl rfl rfl rfl rfl rfl rfl) rfl ?_)
  (refine nx (aA (gN rfl) rfl rfl rfl rfl rfl) rfl ?_)
  show AWp _ _ _ _ _ _ _
  exact aT ⟨.inr rfl, rfl⟩
-- 
theorem wAt_q (n : Nat) (r : RuT) (t : Tm) (har : r.a.rng) (hao : r.a.ok) (hav : r.a.vs.length ≤ 65) (has : r.a.size ≤ 90000000000) (hbr : r.b.rng) (hbo : r.b.ok) (hbs : r.b.size ≤ 90000000000) (hbv : ∀ v ∈ r.b.vs, v ∈ r.a.vs) (htr : t.rng) (hts : t.size ≤ 90000000000) (hm : (mt r.a t []).1 = true) (hk : kb r.a r.b = 1) (s : Tm) (hs : repT (imgB (mt r.a t []).2) r.b = s) : AFunQ Try.prog (fun _ w => n ≤ w.heap.size) 51 [r.cw, t.cw] (.tup [.row [.i s.f, .own n (s.l.map Tm.cv)], .b true]) := by
  have hMz : ∀ b ∈ (mt r.a t []).2, b.t.size ≤ 90000000000 := fun b hb => by
    rcases mt_size r.a t [] b hb with h | h
    · cases h
    · omega
  obtain ⟨M, hMd⟩ : ∃ M, M = matchL [] r.a t := ⟨_, rfl⟩
  have hM : ∀ w, AFun Try.prog w 67 [.lst [], r.a.cw, t.cw] (.tup [.lst (M.map Bd.cv), .b true]) := fun w => by
    have := mMatchF_abs w [] r.a t har hao htr (by simpa using hav) (fun b hb => by cases hb) hMz
    rw [hm, ← hMd] at this
    exact this
  have hMc : M = (mt r.a t []).2.map clB := by rw [hMd]; unfold matchL; rw [if_pos hm]
  have hMn : (M.map Bd.v).Nodup := by
    have h1 : M.map Bd.v = r.a.nv := by rw [← mt_nv hm, hMc, List.map_map]; rfl
    rw [h1]; exact nub_nodup _
  have hG : ∀ w, AFun Try.prog w 26 [r.a.cw, r.b.cw] (.val (.b true)) := fun w => by
    have := kGreater_abs w r.a r.b har hao (by omega) hbr hbo (by omega)
    rw [decide_eq_true hk] at this
    exact this
  have hrM : ∀ b ∈ M, b.t.rng := fun b hb => by
    rw [hMc] at hb
    obtain ⟨b', hb', rfl⟩ := List.mem_map.1 hb
    exact rng_strip17 _ (rngL.mt r.a t [] htr (fun b hb => by cases hb) b' hb')
  have hzM : ∀ b ∈ M, b.t.size ≤ 90000000000 := fun b hb => by
    rw [hMc] at hb
    obtain ⟨b', hb', rfl⟩ := List.mem_map.1 hb
    have := hMz b' hb'
    show b'.t.strip.size ≤ _
    rw [Tm.strip_size]; exact this
  have hfM : ∀ v, findB M v = (findB (mt r.a t []).2 v).map Tm.strip := fun v => by rw [hMc]; exact findB_cl _ v
  have hF : FillOk (findB M) r.b := fillOk_of hzM r.b hbo fun v hv => by
    rw [hfM]
    have := mt_has r.a t [] hm v (hbv v hv)
    simpa using this
  have hsf : fillB (findB M) r.b = s := by
    rw [fill_rep, ← hs]
    refine rep_cs _ fun v hv => ?_
    have := mt_has r.a t [] hm v (hbv v hv)
    obtain ⟨u, hu⟩ := Option.isSome_iff_exists.1 this
    rw [hfM, hu]
    unfold imgB
    rw [hu]
    exact Tm.strip_strip u
  have hMl : M.length ≤ 65 := by
    have h1 : M.length = (mt r.a t []).2.length := by rw [hMc, List.length_map]
    have := (mt_grw r.a t []).le.2
    simp only [List.length_nil] at this
    omega
  have hfill := filledS_abs n M r.b hbr hrM hF s hsf
  have hszM := Bd.size_all M
  refine afunQ_of (rs := [.row [.i s.f, .own n (s.l.map Tm.cv)], .b true]) Try.func51 Try.ntmps51 rfl rfl rfl rfl ?_
  intro w U hW hn0
  refine aS (aR ?_)
  (refine nx (a_box (gN rfl) rfl rfl rfl rfl rfl) rfl ?_)
  (refine nx (a_box (gN rfl) rfl rfl rfl rfl rfl) rfl ?_)
  (refine nx (a_alloc (gN rfl) rfl rfl rfl rfl rfl rfl rfl rfl rfl rfl) rfl ?_)
  (refine nx (aA (gN rfl) rfl rfl rfl rfl rfl) rfl ?_)
  show AWp _ _ _ _ _ _ _
  refine aS (aR ?_)
  (refine nx (aF (gN rfl) rfl rfl rfl rfl rfl rfl rfl rfl rfl) rfl ?_)
  (refine nx (aLb (gN rfl) rfl rfl rfl rfl rfl rfl rfl rfl rfl rfl rfl rfl) rfl ?_)
  (refine nx (aL (gN rfl) rfl rfl rfl rfl rfl rfl rfl rfl rfl rfl rfl rfl) rfl ?_)
  (refine nx (a_call (gN rfl) rfl rfl rfl rfl rfl (hM w)) rfl ?_)
  (refine nx (aM (gN rfl) rfl rfl rfl rfl rfl) rfl ?_)
  (refine nx (aX (gN rfl) rfl rfl rfl rfl rfl rfl) rfl ?_)
  (refine nx (aX (gN rfl) rfl rfl rfl rfl rfl rfl) rfl ?_)
  (refine nx (aA (gN rfl) rfl rfl rfl rfl rfl) rfl ?_)
  (refine nx (aA (gN rfl) rfl rfl rfl rfl rfl) rfl ?_)
  show AWp _ _ _ _ _ _ _
  refine aS (aS (aR ?_))
  (refine nx (aM (gN rfl) rfl rfl rfl rfl rfl) rfl ?_)
  (refine nx (a_not (gN rfl) rfl rfl rfl rfl rfl) rfl ?_)
  (refine nx (aM (gN rfl) rfl rfl rfl rfl rfl) rfl ?_)
  (refine nx (aF (gd_on rfl rfl rfl rfl (by first | rfl | assumption | (simp; done))) rfl rfl rfl rfl rfl rfl rfl rfl rfl) rfl ?_)
  (refine nx (aLb (gd_on rfl rfl rfl rfl (by first | rfl | assumption | (simp; done))) rfl rfl rfl rfl rfl rfl rfl rfl rfl rfl rfl rfl) rfl ?_)
  (refine nx (aF (gd_on rfl rfl rfl rfl (by first | rfl | assumption | (simp; done))) rfl rfl rfl rfl rfl rfl rfl rfl rfl) rfl ?_)
  (refine nx (aLb (gd_on rfl rfl rfl rfl (by first | rfl | assumption | (simp; done))) rfl rfl rfl rfl rfl rfl rfl rfl rfl rfl rfl rfl) rfl ?_)
  (refine nx (a_call (gd_on rfl rfl rfl rfl (by first | rfl | assumption | (simp; done))) rfl rfl rfl rfl rfl (hG w)) rfl ?_)
  (refine nx (a_not (gd_on rfl rfl rfl rfl (by first | rfl | assumption | (simp; done))) rfl rfl rfl rfl rfl) rfl ?_)
  (refine ⟨_, _, _, aPf (gN rfl) rfl rfl rfl rfl rfl ?hb rfl, rfl, ?_⟩; case hb => (first | rfl | assumption | (simp; done)))
  show AWp _ _ _ _ _ _ _
  refine aC rfl (fun hc => by cases hc) (fun _ => aK ?_)
  show AWp _ _ _ _ _ _ _
  refine aS (aR ?_)
  (refine nx (a_mkmap 300002 (gN rfl) rfl rfl rfl rfl rfl) rfl ?_)
  (refine nx (aA (gN rfl) rfl rfl rfl rfl rfl) rfl ?_)
  show AWp _ _ _ _ _ _ _
  refine aS (aS (aR ?_))
  (refine nx (aM (gN rfl) rfl rfl rfl rfl rfl) rfl ?_)
  (refine nx (a_len (gN rfl) rfl rfl rfl rfl rfl rfl rfl) rfl ?_)
  (refine nx (aM (gN rfl) rfl rfl rfl rfl rfl) rfl ?_)
  show AWp _ _ _ _ _ _ _
  refine aB (awp_count M.length (fun k => [(2, .bp 2 0 []), (100002, .bx r.cw), (4, .bp 4 0 []), (100004, _), (8, .mref 300002), (300002, .mp ((M.take k).map Bd.ev)), (30, .val (.lst (M.map Bd.cv))), (31, .val (.i (M.map Bd.cv).length)), (32, .val (.i k))]) (wk_sub ⟨rfl, rfl, rfl, rfl, rfl, rfl, rfl, rfl, rfl, trivial⟩) ?_)
  intro k hk2
  refine aS (aR ?_)
  (refine nx (a_lss (gN rfl) rfl rfl rfl rfl rfl rfl) rfl ?_)
  show AWp _ _ _ _ _ _ _
  refine aS (aC rfl (fun hc => aK ?_) (fun hc => aE ?_))
  · have hkl : k < M.length := by simpa using hc
    clear hc
    obtain ⟨b, hb⟩ : ∃ b, M[k]? = some b := ⟨M[k], List.getElem?_eq_getElem hkl⟩
    have hb' := Bd.map_at hb
    have hnone : findB (M.take k) b.v = none := findB_none fun c hc e => by
      obtain ⟨i, hi⟩ := List.getElem?_of_mem hc
      have hik : i < k := by
        rcases Nat.lt_or_ge i k with h | h
        · exact h
        · rw [List.getElem?_eq_none (by rw [List.length_take]; omega)] at hi; cases hi
      rw [List.getElem?_take, if_pos hik] at hi
      have := (List.getElem?_inj (i := i) (j := k) (l := M.map Bd.v) (by rw [List.length_map]; omega) hMn).1 (by rw [List.getElem?_map, List.getElem?_map, hi, hb]; simp [e])
      omega
    show AWp _ _ _ _ _ _ _
    refine aS (aB (aS (aR ?_)))
    (refine nx (a_index (j := k) (gN rfl) rfl rfl rfl rfl rfl rfl rfl rfl rfl (hb') rfl (hszM)) rfl ?_)
    (refine nx (a_load_ad (gN rfl) rfl rfl rfl rfl rfl rfl rfl rfl rfl) rfl ?_)
    (refine nx (a_alloc (gN rfl) rfl rfl rfl rfl rfl rfl rfl rfl rfl rfl) rfl ?_)
    (refine nx (aSt (gN rfl) rfl rfl rfl rfl rfl rfl rfl rfl rfl rfl) rfl ?_)
    show AWp _ _ _ _ _ _ _
    refine aR ?_
    (refine nx (aM (gN rfl) rfl rfl rfl rfl rfl) rfl ?_)
    (refine nx (aF (gN rfl) rfl rfl rfl rfl rfl rfl rfl rfl rfl) rfl ?_)
    (refine nx (aLb (gN rfl) rfl rfl rfl rfl rfl rfl rfl rfl rfl rfl rfl rfl) rfl ?_)
    (refine nx (aF (gN rfl) rfl rfl rfl rfl rfl rfl rfl rfl rfl) rfl ?_)
    (refine nx (aLb (gN rfl) rfl rfl rfl rfl rfl rfl rfl rfl rfl rfl rfl rfl) rfl ?_)
    (refine nx (a_mapup (gN rfl) rfl rfl rfl rfl rfl rfl rfl rfl (ev_keys _)) rfl ?_)
    show AWp _ _ _ _ _ _ _
    refine aR ?_
    (refine nx (a_add (gN rfl) rfl rfl rfl rfl rfl rfl (by first | omega | (simp only [List.length_map, List.length_append, List.length_cons, List.length_nil] <;> omega) | (simp <;> omega))) rfl ?_)
    (refine nx (aM (gN rfl) rfl rfl rfl rfl rfl) rfl ?_)
    refine ⟨hkl, wk_sub ⟨rfl, rfl, rfl, rfl, rfl, ?_, rfl, rfl, rfl, trivial⟩⟩
    have e : (M.take (k + 1)).map Bd.ev = putR .i64 b.v b.t.cw ((M.take k).map Bd.ev) := by
      rw [put_ev b.v b.t.cw (M.take k) hnone, List.take_add_one, hb, List.map_append]
      rfl
    rw [e]
    rfl
  · have hkl : k = M.length := by
      have : ¬ k < M.length := by simpa using hc
      omega
    subst hkl
    rw [List.take_length]
    show AWp _ _ _ _ _ _ _
    refine AWp.wk ((wk_sub (s' := [(2, AV.bp 2 0 []), (100002, .bx r.cw), (4, .bp 4 0 []), (100004, _), (8, .mref 300002), (300002, .mp (M.map Bd.ev))]) ⟨rfl, rfl, rfl, rfl, rfl, rfl, trivial⟩).trans (wk_renF 300002 400002 rfl rfl (hW.1 _) (by kernel_rfl) (by kernel_rfl) (by kernel_rfl))) ?_
    show AWp _ _ _ _ _ _ _
    refine aS (aR ?_)
    (refine nx (aF (gN rfl) rfl rfl rfl rfl rfl rfl rfl rfl rfl) rfl ?_)
    (refine nx (aLb (gN rfl) rfl rfl rfl rfl rfl rfl rfl rfl rfl rfl rfl rfl) rfl ?_)
    (refine nx (aM (gN rfl) rfl rfl rfl rfl rfl) rfl ?_)
    (refine nx (a_callS hn0 (gN rfl) rfl rfl rfl rfl rfl (hfill) (by repeat (first | exact trivial | refine ⟨rfl, ?_⟩)) (by first | rfl | kernel_rfl) (by first | rfl | kernel_rfl) (by first | rfl | kernel_rfl) (by first | rfl | kernel_rfl) (fun k v h => by first | (rw [hW.1] at h; cases h) | (have h2 := hU k v h; cases h2))) rfl ?_)
    (refine nx (aSt (gN rfl) rfl rfl rfl rfl rfl rfl rfl rfl rfl rfl) rfl ?_)
    (refine nx (aA (gN rfl) rfl rfl rfl rfl rfl) rfl ?_)
    show AWp _ _ _ _ _ _ _
    exact aT ⟨.inr rfl, rfl⟩
end Go.Proofs.Ytekboofbedakcaa
namespace Go.Proofs.Ytekboofbedakcaa
open Go.RowKit
set_option linter.unusedVariables false
set_option linter.unusedSimpArgs false
set_option maxRecDepth 100000
abbrev symV (b off : Nat) : CV := .fn 65 0 [.ptr (ptrV b off)]
noncomputable abbrev useV (b off : Nat) (R : List RuT) : CV := .fn 49 0 [.ptr (ptrV b off), .ptr (.lst (R.map RuT.cv))]
-- 
theorem wSymbols_abs (W : World) (b off : Nat) : AFun Try.prog W 50 [ptrV b off] (.val (symV b off)) := by
  refine afun_of (rs := [symV b off]) Try.func50 Try.ntmps50 rfl rfl rfl rfl ?_
  intro w U hW
  refine aS (aR ?_)
  (refine nx (a_box (gN rfl) rfl rfl rfl rfl rfl) rfl ?_)
  (refine nx (aA (gN rfl) rfl rfl rfl rfl rfl) rfl ?_)
  show AWp _ _ _ _ _ _ _
  refine AWp.wk (wk_freeze 1 rfl rfl rfl (s' := []) trivial rfl rfl rfl) ?_
  refine aS (aR ?_)
  (refine nx (a_mkfunc (gN rfl) rfl rfl rfl rfl rfl rfl) rfl ?_)
  (refine nx (aA (gN rfl) rfl rfl rfl rfl rfl) rfl ?_)
  show AWp _ _ _ _ _ _ _
  exact aT ⟨.inr rfl, rfl⟩
-- 
theorem wUses_abs (W : World) (b off : Nat) (R : List RuT) : AFun Try.prog W 33 [.lst (R.map RuT.cv), ptrV b off] (.val (useV b off R)) := by
  refine afun_of (rs := [useV b off R]) Try.func33 Try.ntmps33 rfl rfl rfl rfl ?_
  intro w U hW
  refine aS (aR ?_)
  (refine nx (a_box (gN rfl) rfl rfl rfl rfl rfl) rfl ?_)
  (refine nx (a_box (gN rfl) rfl rfl rfl rfl rfl) rfl ?_)
  (refine nx (aA (gN rfl) rfl rfl rfl rfl rfl) rfl ?_)
  show AWp _ _ _ _ _ _ _
  refine AWp.wk ((wk_freeze 3 rfl rfl rfl (s' := [(2, AV.bp 2 0 []), (100002, .bx (.lst (R.map RuT.cv)))]) ⟨rfl, rfl, trivial⟩ rfl rfl rfl).trans (wk_freeze 2 rfl rfl rfl (s' := [(3, AV.val (.ptr (ptrV b off)))]) ⟨rfl, trivial⟩ rfl rfl rfl)) ?_
  refine aS (aR ?_)
  (refine nx (a_mkfunc (gN rfl) rfl rfl rfl rfl rfl rfl) rfl ?_)
  (refine nx (aA (gN rfl) rfl rfl rfl rfl rfl) rfl ?_)
  show AWp _ _ _ _ _ _ _
  exact aT ⟨.inr rfl, rfl⟩
-- 
theorem symT_q (hit : Tm → Bool) (F : World → World → Prop) (l : Nat) (x : XT) (b off : Nat) (hn : fst1 hit x.tm = none) : AFunQ Try.prog (WQ Try.prog hit F l x b off) 65 [yldV l, .ptr (ptrV b off)] (resAV []) := by
  refine afunQ_of (rs := []) Try.func65 Try.ntmps65 rfl rfl rfl rfl ?_
  intro w U hW hq
  have hQ := wq_up Try.prog hit F l x b off
  refine aR ?_
  (refine nx (a_load_ptr (gN rfl) rfl rfl rfl rfl rfl rfl rfl rfl rfl) rfl ?_)
  (refine nx (aM (gN rfl) rfl rfl rfl rfl rfl) rfl ?_)
  (refine nx (a_callQ hQ hW hq (gN rfl) rfl rfl rfl rfl rfl (walkT_q hit F l x b off hn)) rfl ?_)
  exact ⟨.inl rfl, rfl⟩
-- 
theorem symF_q (hit : Tm → Bool) {X : Nat → Prop} (F : World → World → Prop) (hF : FRel X F) (l : Nat) (x : XT) (b off : Nat) (hn : fst1 hit x.tm ≠ none) : AFunF Try.prog (WQ Try.prog hit F l x b off) 65 [yldV l, .ptr (ptrV b off)] (resAV []) F := by
  refine afunF_of (rs := []) Try.func65 Try.ntmps65 rfl rfl rfl rfl hF (fun c hc => by cases hc) ?_
  intro w U hW hq
  have hQ := wq_up Try.prog hit F l x b off
  refine awpz_regionF (r := .val (.b false)) 2 [] rfl rfl rfl rfl rfl ?_ (fun w1 hw1 => ?_)
  · skip
    (refine nxY (AOp.y (a_load_ptr (gN rfl) rfl rfl rfl rfl rfl rfl rfl rfl rfl)) rfl ?_)
    (refine nxY (AOp.y (aM (gN rfl) rfl rfl rfl rfl rfl)) rfl ?_)
    exact ⟨trivial, fend_call hF hQ hW hq (walkF_q hit F hF l x b off hn) (gN rfl) rfl rfl⟩
  · skip
    exact ⟨.inl rfl, rfl⟩
end Go.Proofs.Ytekboofbedakcaa
