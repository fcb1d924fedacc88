/-
  Over bindings: slices.CompactFunc, slices.DeleteFunc; firsts.
-/
import Derived.Test.YtmdhefepaolhcaaSbClone
namespace Go.Proofs.Ytmdhefepaolhcaa
open Go.RowKit
set_option linter.unusedVariables false
set_option linter.unusedSimpArgs false
set_option maxRecDepth 100000

/-- No binding. -/
def Bd.zero : Bd := ⟨0, ⟨0, []⟩⟩
/-- Of the first n: those that are not like the one ahead. -/
def cptN (q : Bd → Bd → Bool) (L : List Bd) : Nat → List Bd
  | 0 => []
  | m + 1 => match L[m]?, (match m with | 0 => none | k + 1 => L[k]?) with
    | some x, some y => if q x y then cptN q L m else cptN q L m ++ [x]
    | some x, none => cptN q L m ++ [x]
    | none, _ => cptN q L m
theorem cptN_yes {q : Bd → Bd → Bool} {L : List Bd} {m : Nat} {x y : Bd} (hx : L[m + 1]? = some x) (hy : L[m]? = some y) (h : q x y = true) : cptN q L (m + 2) = cptN q L (m + 1) := by
  rw [cptN]; simp only [hx, hy, h, if_true]
theorem cptN_no {q : Bd → Bd → Bool} {L : List Bd} {m : Nat} {x y : Bd} (hx : L[m + 1]? = some x) (hy : L[m]? = some y) (h : q x y = false) : cptN q L (m + 2) = cptN q L (m + 1) ++ [x] := by
  rw [cptN]; simp [hx, hy, h]
theorem cptN_one {q : Bd → Bd → Bool} {L : List Bd} : cptN q L 1 = L.take 1 := by
  rw [cptN]
  cases L with
  | nil => rfl
  | cons x l => simp [cptN]
theorem take_snoc {α : Type} {l : List α} {k : Nat} {x : α} (h : l[k]? = some x) : l.take (k + 1) = l.take k ++ [x] := by
  rw [List.take_add_one, h]; rfl
theorem set_take {α : Type} {l : List α} {k : Nat} {x : α} (h : k < l.length) : (l.set k x).take (k + 1) = l.take k ++ [x] := by
  rw [take_snoc (x := x) (by simp [h]), List.take_set_of_le (Nat.le_refl _)]

-- 
theorem compact_abs (q : Bd → Bd → Bool) (fc : CV) (L : List Bd) (hn : L.length ≤ 1000000000) (hc : ∀ W x y, AFunW Try.prog W fc [x.cw, y.cw] (.val (.b (q x y)))) :
    AFunO Try.prog 70 [(400000, .mrow 60 3 (L.map Bd.cv))] [.sl 400000 0 L.length 3, .val fc] (.sl 400000 0 (cptN q L L.length).length 3) [(400000, .mrow 60 3 ((cptN q L L.length ++ List.replicate (L.length - (cptN q L L.length).length) Bd.zero).map Bd.cv))] := by
  refine afunO_of Try.func70 Try.ntmps70 rfl rfl rfl rfl rfl rfl ?_
  intro w U hU
  have hwhole : cptN q L L.length = L → (cptN q L L.length).length = L.length ∧ (cptN q L L.length ++ List.replicate (L.length - (cptN q L L.length).length) Bd.zero) = L := fun h => by rw [h]; simp
  refine awp_seq (awp_region ?_)
  (refine ⟨_, _, _, a_assign (gd_none rfl) rfl rfl rfl rfl rfl, rfl, ?_⟩)
  show AWp _ _ _ _ _ _ _
  refine awp_seq (awp_seq (awp_region ?_))
  (refine ⟨_, _, _, a_move (gd_none rfl) rfl rfl rfl rfl rfl, rfl, ?_⟩)
  (first | (refine ⟨_, _, _, a_len (gd_none rfl) rfl rfl rfl rfl rfl rfl rfl, rfl, ?_⟩) | (refine ⟨_, _, _, a_lenM (gd_none rfl) rfl rfl rfl rfl rfl rfl rfl, rfl, ?_⟩))
  (refine ⟨_, _, _, a_lss (gd_none rfl) rfl rfl rfl rfl rfl rfl, rfl, ?_⟩)
  show AWp _ _ _ _ _ _ _
  refine awp_cond rfl (fun h2 => ?_) (fun h2 => ?_)
  · have h2 : L.length < 2 := by have h2 : decide ((L.length : Int) < 2) = true := h2; simp at h2; omega
    have hw := hwhole (by
      match L, h2 with
      | [], _ => rfl
      | [x], _ => rfl)
    refine awp_seq (awp_region ?_)
    (refine ⟨_, _, _, a_move (gd_none rfl) rfl rfl rfl rfl rfl, rfl, ?_⟩)
    (refine ⟨_, _, _, a_assign (gd_none rfl) rfl rfl rfl rfl rfl, rfl, ?_⟩)
    show AWp _ _ _ _ _ _ _
    refine awp_ret ⟨.inr rfl, _, Wk.refl _, ?_, ?_, trivial⟩
    · rw [hw.1]; rfl
    · rw [hw.2]; rfl
  · have h2 : 2 ≤ L.length := by have h2 : decide ((L.length : Int) < 2) = false := h2; simp at h2; omega
    refine awp_skip ?_
    show AWp _ _ _ _ _ _ _
    refine awp_seq (awp_seq (awp_region ?_))
    (refine ⟨_, _, _, a_assign (gd_none rfl) rfl rfl rfl rfl rfl, rfl, ?_⟩)
    show AWp _ _ _ _ _ _ _
    let st : Nat → AS := fun k => [(0, .sl 400000 0 L.length 3), (1, .val fc), (5, .val (.i ((k + 1 : Nat) : Int))), (400000, .mrow 60 3 (L.map Bd.cv))]
    refine awp_block (awp_countI L.length (fun k => k + 1 ≤ L.length ∧ cptN q L (k + 1) = L.take (k + 1)) st (wk_sub ⟨rfl, rfl, rfl, rfl, trivial⟩) ⟨by omega, cptN_one⟩ ?_)
    rintro k hk ⟨hk1, hI⟩
    refine awp_seq (awp_seq (awp_region ?_))
    (refine ⟨_, _, _, a_move (gd_none rfl) rfl rfl rfl rfl rfl, rfl, ?_⟩)
    (refine ⟨_, _, _, a_move (gd_none rfl) rfl rfl rfl rfl rfl, rfl, ?_⟩)
    (first | (refine ⟨_, _, _, a_len (gd_none rfl) rfl rfl rfl rfl rfl rfl rfl, rfl, ?_⟩) | (refine ⟨_, _, _, a_lenM (gd_none rfl) rfl rfl rfl rfl rfl rfl rfl, rfl, ?_⟩))
    (refine ⟨_, _, _, a_lss (gd_none rfl) rfl rfl rfl rfl rfl rfl, rfl, ?_⟩)
    show AWp _ _ _ _ _ _ _
    refine awp_cond rfl (fun hlt => ?_) (fun hlt => ?_)
    · have hkl : k + 1 < L.length := by have h3 : decide ((((k + 1 : Nat) : Int)) < (L.length : Int)) = true := hlt; simp at h3; omega
      obtain ⟨x, hx⟩ : ∃ x, L[k + 1]? = some x := ⟨L[k + 1], List.getElem?_eq_getElem hkl⟩
      obtain ⟨y, hy⟩ : ∃ y, L[k]? = some y := ⟨L[k]'(by omega), List.getElem?_eq_getElem (by omega)⟩
      have hx' := Bd.map_at hx
      have hy' := Bd.map_at hy
      refine awp_skip ?_
      show AWp _ _ _ _ _ _ _
      refine awp_seq (awp_block (awp_seq (awp_draw (by kernel_rfl) (by kernel_rfl) ?_)))
      (refine ⟨_, _, _, a_move (gd_none rfl) rfl rfl rfl rfl rfl, rfl, ?_⟩)
      (refine ⟨_, _, _, a_move (gd_none rfl) rfl rfl rfl rfl rfl, rfl, ?_⟩)
      (refine ⟨_, _, _, a_move (gd_none rfl) rfl rfl rfl rfl rfl, rfl, ?_⟩)
      (refine ⟨_, _, _, a_indexM (k := k + 1) (gd_none rfl) rfl rfl rfl rfl rfl rfl rfl rfl rfl (by first | rfl | omega | (simp only [List.length_set, List.length_map, List.length_append, List.length_cons, List.length_nil]; omega) | (simp; omega)), rfl, ?_⟩)
      (refine ⟨_, _, _, a_loadM (gd_none rfl) rfl rfl rfl rfl rfl rfl rfl rfl (hx') rfl (by first | rfl | omega | (simp only [List.length_set, List.length_map, List.length_append, List.length_cons, List.length_nil]; omega) | (simp; omega)) rfl rfl, rfl, ?_⟩)
      (refine ⟨_, _, _, a_move (gd_none rfl) rfl rfl rfl rfl rfl, rfl, ?_⟩)
      (refine ⟨_, _, _, a_move (gd_none rfl) rfl rfl rfl rfl rfl, rfl, ?_⟩)
      (refine ⟨_, _, _, a_sub (gd_none rfl) rfl rfl rfl rfl rfl rfl (by first | omega | (simp only [List.length_map, List.length_append, List.length_cons, List.length_nil]; omega) | (simp; omega)), rfl, ?_⟩)
      (refine ⟨_, _, _, a_indexM (k := k) (gd_none rfl) rfl rfl rfl rfl rfl rfl rfl rfl rfl (by first | rfl | omega | (simp only [List.length_set, List.length_map, List.length_append, List.length_cons, List.length_nil]; omega) | (simp; omega)), rfl, ?_⟩)
      (refine ⟨_, _, _, a_loadM (gd_none rfl) rfl rfl rfl rfl rfl rfl rfl rfl (hy') rfl (by first | rfl | omega | (simp only [List.length_set, List.length_map, List.length_append, List.length_cons, List.length_nil]; omega) | (simp; omega)) rfl rfl, rfl, ?_⟩)
      (refine ⟨_, _, _, a_callw (gd_none rfl) rfl rfl rfl rfl rfl rfl (hc _ x y), rfl, ?_⟩)
      refine ⟨by kernel_rfl, ?_⟩
      show AWp _ _ _ _ _ _ _
      refine awp_cond rfl (fun hq => ?_) (fun hq => ?_)
      · have hq : q x y = true := hq
        refine AWp.wk (wk_sub (s' := st k) ⟨rfl, rfl, rfl, rfl, trivial⟩) ?_
        refine awp_seq (awp_region ?_)
        (refine ⟨_, _, _, a_move (gd_none rfl) rfl rfl rfl rfl rfl, rfl, ?_⟩)
        (refine ⟨_, _, _, a_move (gd_none rfl) rfl rfl rfl rfl rfl, rfl, ?_⟩)
        (refine ⟨_, _, _, a_fromM (j := k + 1) (gd_none rfl) rfl rfl rfl rfl rfl rfl rfl rfl (by first | rfl | omega | (simp only [List.length_set, List.length_map, List.length_append, List.length_cons, List.length_nil]; omega) | (simp; omega)) (by first | rfl | omega | (simp only [List.length_set, List.length_map, List.length_append, List.length_cons, List.length_nil]; omega) | (simp; omega)), rfl, ?_⟩)
        (refine ⟨_, _, _, a_assign (gd_none rfl) rfl rfl rfl rfl rfl, rfl, ?_⟩)
        show AWp _ _ _ _ _ _ _
        refine awp_seq (awp_seq (awp_region ?_))
        (refine ⟨_, _, _, a_assign (gd_none rfl) rfl rfl rfl rfl rfl, rfl, ?_⟩)
        show AWp _ _ _ _ _ _ _
        let st2 : Nat → Nat → List Bd → AS := fun j kk C => [(0, .sl 400000 0 L.length 3), (1, .val fc), (5, .val (.i kk)), (6, .sl 400000 (0 + (k + 1)) (L.length - (k + 1)) 3), (7, .val (.i ((j + 1 : Nat) : Int))), (400000, .mrow 60 3 (C.map Bd.cv))]
        have h0 : cptN q L (k + 2) = L.take (k + 1) := by rw [cptN_yes hx hy hq, hI]
        refine awp_block (awp_loop (fun m s => ∃ j kk C, m = L.length - j ∧ k + 1 + (j + 1) ≤ L.length ∧ kk ≤ k + 1 + j ∧ C.length = L.length ∧ C.take kk = cptN q L (k + 1 + (j + 1)) ∧ (∀ i, k + 1 + j ≤ i → C[i]? = L[i]?) ∧ s = st2 j kk C) (s' := st2 0 (k + 1) L) (wk_sub ⟨rfl, rfl, rfl, rfl, rfl, rfl, trivial⟩) ⟨0, k + 1, L, rfl, by omega, by omega, rfl, h0.symm, fun _ _ => rfl, rfl⟩ ?_)
        rintro m s ⟨j, kk, C, hm, hj1, hj2, hC, hI1, hI2, rfl⟩
        refine awp_seq (awp_seq (awp_region ?_))
        (refine ⟨_, _, _, a_move (gd_none rfl) rfl rfl rfl rfl rfl, rfl, ?_⟩)
        (refine ⟨_, _, _, a_move (gd_none rfl) rfl rfl rfl rfl rfl, rfl, ?_⟩)
        (first | (refine ⟨_, _, _, a_len (gd_none rfl) rfl rfl rfl rfl rfl rfl rfl, rfl, ?_⟩) | (refine ⟨_, _, _, a_lenM (gd_none rfl) rfl rfl rfl rfl rfl rfl rfl, rfl, ?_⟩))
        (refine ⟨_, _, _, a_lss (gd_none rfl) rfl rfl rfl rfl rfl rfl, rfl, ?_⟩)
        show AWp _ _ _ _ _ _ _
        refine awp_cond rfl (fun hlt2 => ?_) (fun hlt2 => ?_)
        · have hjl : k + 1 + (j + 1) < L.length := by have h3 : decide ((((j + 1 : Nat) : Int)) < ((L.length - (k + 1) : Nat) : Int)) = true := hlt2; simp at h3; omega
          obtain ⟨x2, hx2⟩ : ∃ x, L[k + 1 + (j + 1)]? = some x := ⟨L[k + 1 + (j + 1)], List.getElem?_eq_getElem hjl⟩
          obtain ⟨y2, hy2⟩ : ∃ y, L[k + 1 + j]? = some y := ⟨L[k + 1 + j]'(by omega), List.getElem?_eq_getElem (by omega)⟩
          have hx2' := Bd.map_at ((hI2 _ (by omega)).trans hx2)
          have hy2' := Bd.map_at ((hI2 _ (by omega)).trans hy2)
          refine awp_skip ?_
          show AWp _ _ _ _ _ _ _
          refine awp_seq (awp_block (awp_seq (awp_draw (by kernel_rfl) (by kernel_rfl) ?_)))
          (refine ⟨_, _, _, a_move (gd_none rfl) rfl rfl rfl rfl rfl, rfl, ?_⟩)
          (refine ⟨_, _, _, a_move (gd_none rfl) rfl rfl rfl rfl rfl, rfl, ?_⟩)
          (refine ⟨_, _, _, a_move (gd_none rfl) rfl rfl rfl rfl rfl, rfl, ?_⟩)
          (refine ⟨_, _, _, a_indexM (k := k + 1 + (j + 1)) (gd_none rfl) rfl rfl rfl rfl rfl rfl rfl rfl rfl (by first | rfl | omega | (simp only [List.length_set, List.length_map, List.length_append, List.length_cons, List.length_nil]; omega) | (simp; omega)), rfl, ?_⟩)
          (refine ⟨_, _, _, a_loadM (gd_none rfl) rfl rfl rfl rfl rfl rfl rfl rfl (hx2') rfl (by first | rfl | omega | (simp only [List.length_set, List.length_map, List.length_append, List.length_cons, List.length_nil]; omega) | (simp; omega)) rfl rfl, rfl, ?_⟩)
          (refine ⟨_, _, _, a_move (gd_none rfl) rfl rfl rfl rfl rfl, rfl, ?_⟩)
          (refine ⟨_, _, _, a_move (gd_none rfl) rfl rfl rfl rfl rfl, rfl, ?_⟩)
          (refine ⟨_, _, _, a_sub (gd_none rfl) rfl rfl rfl rfl rfl rfl (by first | omega | (simp only [List.length_map, List.length_append, List.length_cons, List.length_nil]; omega) | (simp; omega)), rfl, ?_⟩)
          (refine ⟨_, _, _, a_indexM (k := k + 1 + j) (gd_none rfl) rfl rfl rfl rfl rfl rfl rfl rfl rfl (by first | rfl | omega | (simp only [List.length_set, List.length_map, List.length_append, List.length_cons, List.length_nil]; omega) | (simp; omega)), rfl, ?_⟩)
          (refine ⟨_, _, _, a_loadM (gd_none rfl) rfl rfl rfl rfl rfl rfl rfl rfl (hy2') rfl (by first | rfl | omega | (simp only [List.length_set, List.length_map, List.length_append, List.length_cons, List.length_nil]; omega) | (simp; omega)) rfl rfl, rfl, ?_⟩)
          (refine ⟨_, _, _, a_callw (gd_none rfl) rfl rfl rfl rfl rfl rfl (hc _ x2 y2), rfl, ?_⟩)
          (refine ⟨_, _, _, a_not (gd_none rfl) rfl rfl rfl rfl rfl, rfl, ?_⟩)
          refine ⟨by kernel_rfl, ?_⟩
          show AWp _ _ _ _ _ _ _
          refine awp_cond rfl (fun hq2 => ?_) (fun hq2 => ?_)
          · have hq2 : q x2 y2 = false := by simpa using hq2
            refine AWp.wk (wk_sub (s' := st2 j kk C) ⟨rfl, rfl, rfl, rfl, rfl, rfl, trivial⟩) ?_
            obtain ⟨z2, hz2⟩ : ∃ z, C[kk]? = some z := ⟨C[kk]'(by omega), List.getElem?_eq_getElem (by omega)⟩
            have hz2' := Bd.map_at hz2
            refine awp_seq (awp_region ?_)
            (refine ⟨_, _, _, a_move (gd_none rfl) rfl rfl rfl rfl rfl, rfl, ?_⟩)
            (refine ⟨_, _, _, a_move (gd_none rfl) rfl rfl rfl rfl rfl, rfl, ?_⟩)
            (refine ⟨_, _, _, a_move (gd_none rfl) rfl rfl rfl rfl rfl, rfl, ?_⟩)
            (refine ⟨_, _, _, a_move (gd_none rfl) rfl rfl rfl rfl rfl, rfl, ?_⟩)
            (refine ⟨_, _, _, a_indexM (k := k + 1 + (j + 1)) (gd_none rfl) rfl rfl rfl rfl rfl rfl rfl rfl rfl (by first | rfl | omega | (simp only [List.length_set, List.length_map, List.length_append, List.length_cons, List.length_nil]; omega) | (simp; omega)), rfl, ?_⟩)
            (refine ⟨_, _, _, a_loadM (gd_none rfl) rfl rfl rfl rfl rfl rfl rfl rfl (hx2') rfl (by first | rfl | omega | (simp only [List.length_set, List.length_map, List.length_append, List.length_cons, List.length_nil]; omega) | (simp; omega)) rfl rfl, rfl, ?_⟩)
            (refine ⟨_, _, _, a_indexM (k := kk) (gd_none rfl) rfl rfl rfl rfl rfl rfl rfl rfl rfl (by first | rfl | omega | (simp only [List.length_set, List.length_map, List.length_append, List.length_cons, List.length_nil]; omega) | (simp; omega)), rfl, ?_⟩)
            (refine ⟨_, _, _, a_storeM (gd_none rfl) rfl rfl rfl rfl rfl rfl (hz2') rfl rfl (by first | rfl | omega | (simp only [List.length_set, List.length_map, List.length_append, List.length_cons, List.length_nil]; omega) | (simp; omega)) rfl, rfl, ?_⟩)
            show AWp _ _ _ _ _ _ _
            refine awp_region ?_
            (refine ⟨_, _, _, a_move (gd_none rfl) rfl rfl rfl rfl rfl, rfl, ?_⟩)
            (refine ⟨_, _, _, a_add (gd_none rfl) rfl rfl rfl rfl rfl rfl (by first | omega | (simp only [List.length_map, List.length_append, List.length_cons, List.length_nil]; omega) | (simp; omega)), rfl, ?_⟩)
            (refine ⟨_, _, _, a_assign (gd_none rfl) rfl rfl rfl rfl rfl, rfl, ?_⟩)
            show AWp _ _ _ _ _ _ _
            refine awp_region ?_
            (refine ⟨_, _, _, a_move (gd_none rfl) rfl rfl rfl rfl rfl, rfl, ?_⟩)
            (refine ⟨_, _, _, a_add (gd_none rfl) rfl rfl rfl rfl rfl rfl (by first | omega | (simp only [List.length_map, List.length_append, List.length_cons, List.length_nil]; omega) | (simp; omega)), rfl, ?_⟩)
            (refine ⟨_, _, _, a_assign (gd_none rfl) rfl rfl rfl rfl rfl, rfl, ?_⟩)
            refine ⟨L.length - (j + 1), st2 (j + 1) (kk + 1) (C.set kk x2), by omega, ⟨j + 1, kk + 1, C.set kk x2, rfl, by omega, by omega, by simp [hC], ?_, fun i hi => ?_, rfl⟩, wk_sub ⟨rfl, rfl, rfl, rfl, rfl, ?_, trivial⟩⟩
            · rw [set_take (by omega), hI1, show k + 1 + (j + 1 + 1) = (k + 1 + j) + 2 by omega, cptN_no (m := k + 1 + j) hx2 hy2 hq2]; rfl
            · rw [List.getElem?_set_ne (by omega)]; exact hI2 i (by omega)
            · show some (AV.mrow _ _ _) = some (AV.mrow _ _ _)
              rw [set_map_cv]
          · have hq2 : q x2 y2 = true := by simpa using hq2
            refine awp_skip ?_
            show AWp _ _ _ _ _ _ _
            refine AWp.wk (wk_sub (s' := st2 j kk C) ⟨rfl, rfl, rfl, rfl, rfl, rfl, trivial⟩) ?_
            refine awp_region ?_
            (refine ⟨_, _, _, a_move (gd_none rfl) rfl rfl rfl rfl rfl, rfl, ?_⟩)
            (refine ⟨_, _, _, a_add (gd_none rfl) rfl rfl rfl rfl rfl rfl (by first | omega | (simp only [List.length_map, List.length_append, List.length_cons, List.length_nil]; omega) | (simp; omega)), rfl, ?_⟩)
            (refine ⟨_, _, _, a_assign (gd_none rfl) rfl rfl rfl rfl rfl, rfl, ?_⟩)
            refine ⟨L.length - (j + 1), st2 (j + 1) kk C, by omega, ⟨j + 1, kk, C, rfl, by omega, by omega, hC, ?_, fun i hi => hI2 i (by omega), rfl⟩, wk_sub ⟨rfl, rfl, rfl, rfl, rfl, rfl, trivial⟩⟩
            rw [hI1, show k + 1 + (j + 1 + 1) = (k + 1 + j) + 2 by omega, cptN_yes (m := k + 1 + j) hx2 hy2 hq2]; rfl
        · have hjl : k + 1 + (j + 1) = L.length := by have h3 : decide ((((j + 1 : Nat) : Int)) < ((L.length - (k + 1) : Nat) : Int)) = false := hlt2; simp at h3; omega
          refine awp_exit ?_
          show AWp _ _ _ _ _ _ _
          refine AWp.wk (wk_sub (s' := st2 j kk C) ⟨rfl, rfl, rfl, rfl, rfl, rfl, trivial⟩) ?_
          refine awp_seq (awp_region ?_)
          (refine ⟨_, _, _, a_move (gd_none rfl) rfl rfl rfl rfl rfl, rfl, ?_⟩)
          (refine ⟨_, _, _, a_move (gd_none rfl) rfl rfl rfl rfl rfl, rfl, ?_⟩)
          (refine ⟨_, _, _, a_fromM (j := kk) (gd_none rfl) rfl rfl rfl rfl rfl rfl rfl rfl (by first | rfl | omega | (simp only [List.length_set, List.length_map, List.length_append, List.length_cons, List.length_nil]; omega) | (simp; omega)) (by first | rfl | omega | (simp only [List.length_set, List.length_map, List.length_append, List.length_cons, List.length_nil]; omega) | (simp; omega)), rfl, ?_⟩)
          (refine ⟨_, _, _, a_clearM (gd_none rfl) rfl rfl rfl rfl rfl rfl rfl rfl (by first | rfl | omega | (simp only [List.length_set, List.length_map, List.length_append, List.length_cons, List.length_nil]; omega) | (simp; omega)), rfl, ?_⟩)
          show AWp _ _ _ _ _ _ _
          refine awp_seq (awp_region ?_)
          (refine ⟨_, _, _, a_move (gd_none rfl) rfl rfl rfl rfl rfl, rfl, ?_⟩)
          (refine ⟨_, _, _, a_move (gd_none rfl) rfl rfl rfl rfl rfl, rfl, ?_⟩)
          (refine ⟨_, _, _, a_uptoM (j := kk) (gd_none rfl) rfl rfl rfl rfl rfl rfl rfl rfl (by first | rfl | omega | (simp only [List.length_set, List.length_map, List.length_append, List.length_cons, List.length_nil]; omega) | (simp; omega)) (by first | rfl | omega | (simp only [List.length_set, List.length_map, List.length_append, List.length_cons, List.length_nil]; omega) | (simp; omega)), rfl, ?_⟩)
          (refine ⟨_, _, _, a_assign (gd_none rfl) rfl rfl rfl rfl rfl, rfl, ?_⟩)
          show AWp _ _ _ _ _ _ _
          rw [hjl] at hI1
          have hkk : kk = (cptN q L L.length).length := by rw [← hI1]; simp; omega
          refine awp_ret ⟨.inr rfl, _, Wk.refl _, ?_, ?_, trivial⟩
          · rw [← hkk]; rfl
          · show some (AV.mrow _ _ _) = some (AV.mrow _ _ _)
            rw [← hkk, ← hI1, List.map_append, ← List.map_take, List.map_replicate]
            simp only [Nat.zero_add]
            rw [show kk + (L.length - kk) = (C.map Bd.cv).length by simp; omega, List.drop_length, List.append_nil]
            rfl
      · have hq : q x y = false := hq
        refine awp_skip ?_
        show AWp _ _ _ _ _ _ _
        refine AWp.wk (wk_sub (s' := st k) ⟨rfl, rfl, rfl, rfl, trivial⟩) ?_
        refine awp_region ?_
        (refine ⟨_, _, _, a_move (gd_none rfl) rfl rfl rfl rfl rfl, rfl, ?_⟩)
        (refine ⟨_, _, _, a_add (gd_none rfl) rfl rfl rfl rfl rfl rfl (by first | omega | (simp only [List.length_map, List.length_append, List.length_cons, List.length_nil]; omega) | (simp; omega)), rfl, ?_⟩)
        (refine ⟨_, _, _, a_assign (gd_none rfl) rfl rfl rfl rfl rfl, rfl, ?_⟩)
        refine ⟨by omega, ⟨by omega, ?_⟩, wk_sub ⟨rfl, rfl, rfl, rfl, trivial⟩⟩
        rw [cptN_no hx hy hq, hI, take_snoc hx]
    · have hkl : k + 1 = L.length := by have h3 : decide ((((k + 1 : Nat) : Int)) < (L.length : Int)) = false := hlt; simp at h3; omega
      refine awp_exit ?_
      show AWp _ _ _ _ _ _ _
      rw [hkl, List.take_length] at hI
      have hw := hwhole hI
      refine awp_seq (awp_region ?_)
      (refine ⟨_, _, _, a_move (gd_none rfl) rfl rfl rfl rfl rfl, rfl, ?_⟩)
      (refine ⟨_, _, _, a_assign (gd_none rfl) rfl rfl rfl rfl rfl, rfl, ?_⟩)
      show AWp _ _ _ _ _ _ _
      refine awp_ret ⟨.inr rfl, _, Wk.refl _, ?_, ?_, trivial⟩
      · rw [hw.1]; rfl
      · rw [hw.2]; rfl

theorem idxB_cases (q : Bd → Bool) (L : List Bd) : (idxB q L 0 = -1 ∧ L.filter (fun b => !q b) = L) ∨ ∃ (i : Nat) (b : Bd), idxB q L 0 = (i : Int) ∧ L[i]? = some b ∧ q b = true ∧ (L.take (i + 1)).filter (fun b => !q b) = L.take i := by
  by_cases h : ∃ b ∈ L, q b = true
  · right
    obtain ⟨k, hk, hmin⟩ := least (fun k => ∃ b, L[k]? = some b ∧ q b = true) (by
      obtain ⟨b, hb, hq⟩ := h
      obtain ⟨j, hj⟩ := List.getElem?_of_mem hb
      exact ⟨j, b, hj, hq⟩)
    obtain ⟨b, hb, hq⟩ := hk
    have hf : ∀ j c, j < k → L[j]? = some c → q c = false := fun j c hj hc => by
      cases hqc : q c with
      | false => rfl
      | true => have := hmin j ⟨c, hc, hqc⟩; omega
    refine ⟨k, b, by rw [idxB_at hb hq hf, Nat.zero_add], hb, hq, ?_⟩
    rw [take_snoc hb, List.filter_append]
    have e1 : (L.take k).filter (fun b => !q b) = L.take k := by
      rw [List.filter_eq_self]
      intro c hc
      obtain ⟨j, hj⟩ := List.getElem?_of_mem hc
      rw [List.getElem?_take] at hj
      split at hj
      · rename_i hjk
        rw [hf j c hjk hj]; rfl
      · cases hj
    rw [e1]
    simp [hq]
  · left
    have hf : ∀ b ∈ L, q b = false := fun b hb => by
      cases hqc : q b with
      | false => rfl
      | true => exact absurd ⟨b, hb, hqc⟩ h
    refine ⟨idxB_none hf, ?_⟩
    rw [List.filter_eq_self]
    intro c hc
    rw [hf c hc]; rfl

-- 
theorem delete_abs (q : Bd → Bool) (fc : CV) (L : List Bd) (n : Nat) (hnl : n ≤ L.length) (hn : L.length ≤ 1000000000) (hc : ∀ W x, x ∈ L.take n → AFunW Try.prog W fc [x.cw] (.val (.b (q x)))) :
    AFunO Try.prog 45 [(400000, .mrow 60 3 (L.map Bd.cv))] [.sl 400000 0 n 3, .val fc] (.sl 400000 0 ((L.take n).filter (fun b => !q b)).length 3) [(400000, .mrow 60 3 (((L.take n).filter (fun b => !q b) ++ (List.replicate (n - ((L.take n).filter (fun b => !q b)).length) Bd.zero ++ L.drop n)).map Bd.cv))] := by
  refine afunO_of Try.func45 Try.ntmps45 rfl rfl rfl rfl rfl rfl ?_
  intro w U hU
  obtain ⟨R, hR⟩ : ∃ R, R = (L.take n).filter (fun b => !q b) := ⟨_, rfl⟩
  rw [← hR]
  have hidx := indexF_abs q fc L n hnl hn hc
  refine awp_seq (awp_region ?_)
  (refine ⟨_, _, _, a_assign (gd_none rfl) rfl rfl rfl rfl rfl, rfl, ?_⟩)
  show AWp _ _ _ _ _ _ _
  refine awp_seq (awp_region ?_)
  (refine ⟨_, _, _, a_move (gd_none rfl) rfl rfl rfl rfl rfl, rfl, ?_⟩)
  (refine ⟨_, _, _, a_move (gd_none rfl) rfl rfl rfl rfl rfl, rfl, ?_⟩)
  (refine ⟨_, _, _, a_callO (gd_none rfl) rfl rfl rfl rfl rfl (hidx) (by repeat (first | exact trivial | refine ⟨rfl, ?_⟩)) rfl rfl rfl rfl (hnb_of rfl), rfl, ?_⟩)
  (refine ⟨_, _, _, a_assign (gd_none rfl) rfl rfl rfl rfl rfl, rfl, ?_⟩)
  show AWp _ _ _ _ _ _ _
  refine awp_seq (awp_seq (awp_region ?_))
  (refine ⟨_, _, _, a_move (gd_none rfl) rfl rfl rfl rfl rfl, rfl, ?_⟩)
  (first | (refine ⟨_, _, _, a_eql (gd_none rfl) rfl rfl rfl rfl rfl rfl, rfl, ?_⟩) | (refine ⟨_, _, _, a_beq (gd_none rfl) rfl rfl rfl rfl rfl rfl rfl, rfl, ?_⟩))
  show AWp _ _ _ _ _ _ _
  rcases idxB_cases q (L.take n) with ⟨hi, hf⟩ | ⟨i, b, hi, hb, hqb, hf⟩
  · rw [← hR] at hf
    have hl : R.length = n := by rw [hf]; simp; omega
    refine awp_cond rfl (fun _ => ?_) (fun h => ?_)
    · refine awp_seq (awp_region ?_)
      (refine ⟨_, _, _, a_move (gd_none rfl) rfl rfl rfl rfl rfl, rfl, ?_⟩)
      (refine ⟨_, _, _, a_assign (gd_none rfl) rfl rfl rfl rfl rfl, rfl, ?_⟩)
      show AWp _ _ _ _ _ _ _
      refine awp_ret ⟨.inr rfl, _, Wk.refl _, ?_, ?_, trivial⟩
      · rw [hl]; rfl
      · rw [hl, Nat.sub_self, List.replicate_zero, List.nil_append, hf, List.take_append_drop]; rfl
    · have h : decide (idxB q (L.take n) 0 = -1) = false := h
      rw [hi] at h
      cases h
  · have hin : i < n := by
      rw [List.getElem?_take] at hb
      split at hb
      · assumption
      · cases hb
    rw [List.take_take, Nat.min_eq_left (by omega), List.take_take, Nat.min_eq_left (by omega)] at hf
    refine awp_cond rfl (fun h => ?_) (fun _ => ?_)
    · have h : decide (idxB q (L.take n) 0 = -1) = true := h
      rw [hi] at h
      simp at h
    refine awp_skip ?_
    show AWp _ _ _ _ _ _ _
    refine AWp.wk (wk_sub (s' := [(0, .sl 400000 0 n 3), (1, .val fc), (5, .val (.i i)), (400000, .mrow 60 3 (L.map Bd.cv))]) ⟨rfl, rfl, by rw [← hi]; rfl, rfl, trivial⟩) ?_
    refine awp_seq (awp_seq (awp_region ?_))
    (refine ⟨_, _, _, a_move (gd_none rfl) rfl rfl rfl rfl rfl, rfl, ?_⟩)
    (refine ⟨_, _, _, a_add (gd_none rfl) rfl rfl rfl rfl rfl rfl (by first | omega | (simp only [List.length_map, List.length_append, List.length_cons, List.length_nil]; omega) | (simp; omega)), rfl, ?_⟩)
    (refine ⟨_, _, _, a_assign (gd_none rfl) rfl rfl rfl rfl rfl, rfl, ?_⟩)
    show AWp _ _ _ _ _ _ _
    let st : Nat → Nat → List Bd → AS := fun j ii C => [(0, .sl 400000 0 n 3), (1, .val fc), (5, .val (.i ii)), (6, .val (.i ((j + 1 : Nat) : Int))), (400000, .mrow 60 3 (C.map Bd.cv))]
    refine awp_block (awp_loop (fun m s => ∃ j ii C, m = n - j ∧ j + 1 ≤ n ∧ ii ≤ j ∧ C.length = L.length ∧ C.take ii = (L.take (j + 1)).filter (fun b => !q b) ∧ (∀ p, j + 1 ≤ p → C[p]? = L[p]?) ∧ s = st j ii C) (s' := st i i L) (wk_sub ⟨rfl, rfl, rfl, rfl, rfl, trivial⟩) ⟨i, i, L, rfl, by omega, Nat.le_refl _, rfl, hf.symm, fun _ _ => rfl, rfl⟩ ?_)
    rintro m s ⟨j, ii, C, hm, hj1, hj2, hC, hI1, hI2, rfl⟩
    refine awp_seq (awp_seq (awp_region ?_))
    (refine ⟨_, _, _, a_move (gd_none rfl) rfl rfl rfl rfl rfl, rfl, ?_⟩)
    (refine ⟨_, _, _, a_move (gd_none rfl) rfl rfl rfl rfl rfl, rfl, ?_⟩)
    (first | (refine ⟨_, _, _, a_len (gd_none rfl) rfl rfl rfl rfl rfl rfl rfl, rfl, ?_⟩) | (refine ⟨_, _, _, a_lenM (gd_none rfl) rfl rfl rfl rfl rfl rfl rfl, rfl, ?_⟩))
    (refine ⟨_, _, _, a_lss (gd_none rfl) rfl rfl rfl rfl rfl rfl, rfl, ?_⟩)
    show AWp _ _ _ _ _ _ _
    refine awp_cond rfl (fun hlt => ?_) (fun hlt => ?_)
    · have hjl : j + 1 < n := by have h3 : decide ((((j + 1 : Nat) : Int)) < (n : Int)) = true := hlt; simp at h3; omega
      obtain ⟨x, hx⟩ : ∃ x, L[j + 1]? = some x := ⟨L[j + 1]'(by omega), List.getElem?_eq_getElem (by omega)⟩
      have hx' := Bd.map_at ((hI2 _ (by omega)).trans hx)
      have hxm : x ∈ L.take n := List.mem_of_getElem? (i := j + 1) (by rw [List.getElem?_take, if_pos hjl]; exact hx)
      refine awp_skip ?_
      show AWp _ _ _ _ _ _ _
      refine awp_seq (awp_block (awp_seq (awp_region ?_)))
      (refine ⟨_, _, _, a_move (gd_none rfl) rfl rfl rfl rfl rfl, rfl, ?_⟩)
      (refine ⟨_, _, _, a_move (gd_none rfl) rfl rfl rfl rfl rfl, rfl, ?_⟩)
      (refine ⟨_, _, _, a_indexM (k := j + 1) (gd_none rfl) rfl rfl rfl rfl rfl rfl rfl rfl rfl (by first | rfl | omega | (simp only [List.length_set, List.length_map, List.length_append, List.length_cons, List.length_nil]; omega) | (simp; omega)), rfl, ?_⟩)
      (refine ⟨_, _, _, a_loadM (gd_none rfl) rfl rfl rfl rfl rfl rfl rfl rfl (hx') rfl (by first | rfl | omega | (simp only [List.length_set, List.length_map, List.length_append, List.length_cons, List.length_nil]; omega) | (simp; omega)) rfl rfl, rfl, ?_⟩)
      (refine ⟨_, _, _, a_alloc (gd_none rfl) rfl rfl rfl rfl rfl rfl rfl rfl rfl rfl, rfl, ?_⟩)
      (first | (refine ⟨_, _, _, a_store_all (gd_none rfl) rfl rfl rfl rfl rfl rfl rfl rfl rfl rfl, rfl, ?_⟩) | (refine ⟨_, _, _, a_store (gd_none rfl) rfl rfl rfl rfl rfl rfl rfl rfl rfl rfl, rfl, ?_⟩))
      show AWp _ _ _ _ _ _ _
      refine awp_seq (awp_region ?_)
      (refine ⟨_, _, _, a_move (gd_none rfl) rfl rfl rfl rfl rfl, rfl, ?_⟩)
      (first | (refine ⟨_, _, _, a_load_all (gd_none rfl) rfl rfl rfl rfl rfl rfl rfl rfl rfl rfl rfl rfl, rfl, ?_⟩) | (refine ⟨_, _, _, a_load_tok (gd_none rfl) rfl rfl rfl rfl rfl rfl rfl rfl rfl rfl rfl rfl rfl, rfl, ?_⟩) | (refine ⟨_, _, _, a_load_bp (gd_none rfl) rfl rfl rfl rfl rfl rfl rfl rfl rfl rfl rfl rfl, rfl, ?_⟩) | (refine ⟨_, _, _, a_load_ad (gd_none rfl) rfl rfl rfl rfl rfl rfl rfl rfl rfl, rfl, ?_⟩) | (refine ⟨_, _, _, a_load_ptr (gd_none rfl) rfl rfl rfl rfl rfl rfl rfl rfl rfl, rfl, ?_⟩))
      (refine ⟨_, _, _, a_callw (gd_none rfl) rfl rfl rfl rfl rfl rfl (hc _ x hxm), rfl, ?_⟩)
      (refine ⟨_, _, _, a_not (gd_none rfl) rfl rfl rfl rfl rfl, rfl, ?_⟩)
      show AWp _ _ _ _ _ _ _
      refine awp_cond rfl (fun hq => ?_) (fun hq => ?_)
      · have hq : q x = false := by simpa using hq
        obtain ⟨z, hz⟩ : ∃ z, C[ii]? = some z := ⟨C[ii]'(by omega), List.getElem?_eq_getElem (by omega)⟩
        have hz' := Bd.map_at hz
        refine awp_seq (awp_region ?_)
        (refine ⟨_, _, _, a_move (gd_none rfl) rfl rfl rfl rfl rfl, rfl, ?_⟩)
        (refine ⟨_, _, _, a_move (gd_none rfl) rfl rfl rfl rfl rfl, rfl, ?_⟩)
        (first | (refine ⟨_, _, _, a_load_all (gd_none rfl) rfl rfl rfl rfl rfl rfl rfl rfl rfl rfl rfl rfl, rfl, ?_⟩) | (refine ⟨_, _, _, a_load_tok (gd_none rfl) rfl rfl rfl rfl rfl rfl rfl rfl rfl rfl rfl rfl rfl, rfl, ?_⟩) | (refine ⟨_, _, _, a_load_bp (gd_none rfl) rfl rfl rfl rfl rfl rfl rfl rfl rfl rfl rfl rfl, rfl, ?_⟩) | (refine ⟨_, _, _, a_load_ad (gd_none rfl) rfl rfl rfl rfl rfl rfl rfl rfl rfl, rfl, ?_⟩) | (refine ⟨_, _, _, a_load_ptr (gd_none rfl) rfl rfl rfl rfl rfl rfl rfl rfl rfl, rfl, ?_⟩))
        (refine ⟨_, _, _, a_indexM (k := ii) (gd_none rfl) rfl rfl rfl rfl rfl rfl rfl rfl rfl (by first | rfl | omega | (simp only [List.length_set, List.length_map, List.length_append, List.length_cons, List.length_nil]; omega) | (simp; omega)), rfl, ?_⟩)
        (refine ⟨_, _, _, a_storeM (gd_none rfl) rfl rfl rfl rfl rfl rfl (hz') rfl rfl (by first | rfl | omega | (simp only [List.length_set, List.length_map, List.length_append, List.length_cons, List.length_nil]; omega) | (simp; omega)) rfl, rfl, ?_⟩)
        show AWp _ _ _ _ _ _ _
        refine awp_region ?_
        (refine ⟨_, _, _, a_move (gd_none rfl) rfl rfl rfl rfl rfl, rfl, ?_⟩)
        (refine ⟨_, _, _, a_add (gd_none rfl) rfl rfl rfl rfl rfl rfl (by first | omega | (simp only [List.length_map, List.length_append, List.length_cons, List.length_nil]; omega) | (simp; omega)), rfl, ?_⟩)
        (refine ⟨_, _, _, a_assign (gd_none rfl) rfl rfl rfl rfl rfl, rfl, ?_⟩)
        show AWp _ _ _ _ _ _ _
        refine awp_region ?_
        (refine ⟨_, _, _, a_move (gd_none rfl) rfl rfl rfl rfl rfl, rfl, ?_⟩)
        (refine ⟨_, _, _, a_add (gd_none rfl) rfl rfl rfl rfl rfl rfl (by first | omega | (simp only [List.length_map, List.length_append, List.length_cons, List.length_nil]; omega) | (simp; omega)), rfl, ?_⟩)
        (refine ⟨_, _, _, a_assign (gd_none rfl) rfl rfl rfl rfl rfl, rfl, ?_⟩)
        refine ⟨n - (j + 1), st (j + 1) (ii + 1) (C.set ii x), by omega, ⟨j + 1, ii + 1, C.set ii x, rfl, by omega, by omega, by simp [hC], ?_, fun p hp => ?_, rfl⟩, wk_sub ⟨rfl, rfl, rfl, rfl, ?_, trivial⟩⟩
        · rw [set_take (by omega), hI1, take_snoc (k := j + 1) hx, List.filter_append]
          simp [hq]
        · rw [List.getElem?_set_ne (by omega)]; exact hI2 p (by omega)
        · show some (AV.mrow _ _ _) = some (AV.mrow _ _ _)
          rw [set_map_cv]
      · have hq : q x = true := by simpa using hq
        refine awp_skip ?_
        show AWp _ _ _ _ _ _ _
        refine AWp.wk (wk_sub (s' := st j ii C) ⟨rfl, rfl, rfl, rfl, rfl, trivial⟩) ?_
        refine awp_region ?_
        (refine ⟨_, _, _, a_move (gd_none rfl) rfl rfl rfl rfl rfl, rfl, ?_⟩)
        (refine ⟨_, _, _, a_add (gd_none rfl) rfl rfl rfl rfl rfl rfl (by first | omega | (simp only [List.length_map, List.length_append, List.length_cons, List.length_nil]; omega) | (simp; omega)), rfl, ?_⟩)
        (refine ⟨_, _, _, a_assign (gd_none rfl) rfl rfl rfl rfl rfl, rfl, ?_⟩)
        refine ⟨n - (j + 1), st (j + 1) ii C, by omega, ⟨j + 1, ii, C, rfl, by omega, by omega, hC, ?_, fun p hp => hI2 p (by omega), rfl⟩, wk_sub ⟨rfl, rfl, rfl, rfl, rfl, trivial⟩⟩
        rw [hI1, take_snoc (k := j + 1) hx, List.filter_append]
        simp [hq]
    · have hjl : j + 1 = n := by have h3 : decide ((((j + 1 : Nat) : Int)) < (n : Int)) = false := hlt; simp at h3; omega
      refine awp_exit ?_
      show AWp _ _ _ _ _ _ _
      refine AWp.wk (wk_sub (s' := st j ii C) ⟨rfl, rfl, rfl, rfl, rfl, trivial⟩) ?_
      refine awp_seq (awp_region ?_)
      (refine ⟨_, _, _, a_move (gd_none rfl) rfl rfl rfl rfl rfl, rfl, ?_⟩)
      (refine ⟨_, _, _, a_move (gd_none rfl) rfl rfl rfl rfl rfl, rfl, ?_⟩)
      (refine ⟨_, _, _, a_fromM (j := ii) (gd_none rfl) rfl rfl rfl rfl rfl rfl rfl rfl (by first | rfl | omega | (simp only [List.length_set, List.length_map, List.length_append, List.length_cons, List.length_nil]; omega) | (simp; omega)) (by first | rfl | omega | (simp only [List.length_set, List.length_map, List.length_append, List.length_cons, List.length_nil]; omega) | (simp; omega)), rfl, ?_⟩)
      (refine ⟨_, _, _, a_clearM (gd_none rfl) rfl rfl rfl rfl rfl rfl rfl rfl (by first | rfl | omega | (simp only [List.length_set, List.length_map, List.length_append, List.length_cons, List.length_nil]; omega) | (simp; omega)), rfl, ?_⟩)
      show AWp _ _ _ _ _ _ _
      refine awp_seq (awp_region ?_)
      (refine ⟨_, _, _, a_move (gd_none rfl) rfl rfl rfl rfl rfl, rfl, ?_⟩)
      (refine ⟨_, _, _, a_move (gd_none rfl) rfl rfl rfl rfl rfl, rfl, ?_⟩)
      (refine ⟨_, _, _, a_uptoM (j := ii) (gd_none rfl) rfl rfl rfl rfl rfl rfl rfl rfl (by first | rfl | omega | (simp only [List.length_set, List.length_map, List.length_append, List.length_cons, List.length_nil]; omega) | (simp; omega)) (by first | rfl | omega | (simp only [List.length_set, List.length_map, List.length_append, List.length_cons, List.length_nil]; omega) | (simp; omega)), rfl, ?_⟩)
      (refine ⟨_, _, _, a_assign (gd_none rfl) rfl rfl rfl rfl rfl, rfl, ?_⟩)
      show AWp _ _ _ _ _ _ _
      rw [hjl, ← hR] at hI1
      have hkk : ii = R.length := by rw [← hI1]; simp; omega
      have hdrop : C.drop n = L.drop n := by
        apply List.ext_getElem?
        intro p
        rw [List.getElem?_drop, List.getElem?_drop]
        exact hI2 _ (by omega)
      refine awp_ret ⟨.inr rfl, _, Wk.refl _, ?_, ?_, trivial⟩
      · rw [← hkk]; rfl
      · show some (AV.mrow _ _ _) = some (AV.mrow _ _ _)
        rw [← hkk, ← hI1, ← hdrop, List.map_append, ← List.map_take, List.map_append, List.map_replicate]
        simp only [Nat.zero_add]
        rw [show ii + (n - ii) = n by omega, List.map_drop]
        rfl
end Go.Proofs.Ytmdhefepaolhcaa
