/-
  ClSort AbZero ClNmW ClNmX ClTtM ClRefN ClRefO ClRefP ClTop ClBare ClN0
-/
import Derived.Test.YtmeegdomncadpaaGreatMg5
import Derived.Test.YtmeegdomncadpaaGreatMg3
import Derived.Test.YtmeegdomncadpaaGreatMg4
namespace Go.Proofs.YtmeegdomncadpaaGreat
open Go.RowKit
set_option linter.unusedVariables false
set_option linter.unusedSimpArgs false
set_option maxRecDepth 100000
noncomputable abbrev Sn.cw (s : Sn) : CV := .row [s.lit.cw, s.look.cw]
noncomputable def Sn.cv (s : Sn) : CV := s.cw
theorem Sn.size_all (c : List Sn) : ∀ x ∈ c.map Sn.cv, x.size = 10 := by
  intro x hx
  obtain ⟨l, _, rfl⟩ := List.mem_map.1 hx
  rfl
theorem Sn.map_at {c : List Sn} {i : Nat} {l : Sn} (h : c[i]? = some l) : (c.map Sn.cv)[i]? = some l.cw := by rw [List.getElem?_map, h]; rfl
def ltG {α : Type} (cmp : α → α → Int) (x y : α) : Bool := decide (cmp x y < 0)
theorem set_map_sv (l : List Sn) (j : Nat) (b : Sn) : (l.map Sn.cv).set j b.cw = (l.set j b).map Sn.cv := by rw [List.map_set]; rfl
theorem set_map_iv (l : List Int) (j : Nat) (b : Int) : (l.map CV.i).set j (.i b) = (l.set j b).map CV.i := by rw [List.map_set]
-- 
theorem insSortSn_abs (cmp : Sn → Sn → Int) (fc : CV) (L0 : List Sn) (a b : Nat) (ha : a ≤ L0.length) (hb : b ≤ L0.length) (hn : L0.length ≤ 1000000000) (hc : ∀ W x y, x ∈ L0 → y ∈ L0 → AFunW Tryz.prog W fc [x.cw, y.cw] (.val (.i (cmp x y)))) :
    AFunO Tryz.prog 129 [(400000, .mrow 103 10 (L0.map Sn.cv))] [.sl 400000 0 L0.length 10, .val (.i a), .val (.i b), .val fc] (.tup []) [(400000, .mrow 103 10 ((isortN (ltG cmp) a (b - (a + 1)) (a + 1) L0).map Sn.cv))] := by
  refine afunO_of Tryz.func129 Tryz.ntmps129 rfl rfl rfl rfl rfl rfl ?_
  intro w U hU
  obtain ⟨T, hT⟩ : ∃ T, T = isortN (ltG cmp) a (b - (a + 1)) (a + 1) L0 := ⟨_, rfl⟩
  rw [← hT]
  refine aS (aR ?_)
  (refine nx (aM (gN rfl) rfl rfl rfl rfl rfl) rfl ?_)
  (refine nx (a_add (gN rfl) rfl rfl rfl rfl rfl rfl (by first | omega | (simp only [List.length_map, List.length_append, List.length_cons, List.length_nil] <;> omega) | (simp <;> omega))) rfl ?_)
  (refine nx (aA (gN rfl) rfl rfl rfl rfl rfl) rfl ?_)
  show AWp _ _ _ _ _ _ _
  let st : Nat → List Sn → AS := fun i L => [(0, .sl 400000 0 L0.length 10), (1, .val (.i a)), (2, .val (.i b)), (3, .val fc), (8, .val (.i i)), (400000, .mrow 103 10 (L.map Sn.cv))]
  refine aB (awp_loop (fun m s => ∃ i L, m = (b + 1) - i ∧ L.length = L0.length ∧ (∀ z ∈ L, z ∈ L0) ∧ a + 1 ≤ i ∧ isortN (ltG cmp) a (b - i) i L = T ∧ s = st i L) (s' := st (a + 1) L0) (wk_sub ⟨rfl, rfl, rfl, rfl, rfl, rfl, trivial⟩) ⟨a + 1, L0, rfl, rfl, (fun z hz => hz), Nat.le_refl _, hT.symm, rfl⟩ ?_)
  rintro m s ⟨i, L, rfl, hL, hLm, hi, hI, rfl⟩
  refine aS (aS (aR ?_))
  (refine nx (aM (gN rfl) rfl rfl rfl rfl rfl) rfl ?_)
  (refine nx (aM (gN rfl) rfl rfl rfl rfl rfl) rfl ?_)
  (refine nx (a_lss (gN rfl) rfl rfl rfl rfl rfl rfl) rfl ?_)
  show AWp _ _ _ _ _ _ _
  refine aC rfl (fun hlt => ?_) (fun hlt => ?_)
  · have hib : i < b := by simpa using hlt
    refine aK ?_
    show AWp _ _ _ _ _ _ _
    refine aS (aB (aS (aR ?_)))
    (refine nx (aM (gN rfl) rfl rfl rfl rfl rfl) rfl ?_)
    (refine nx (aA (gN rfl) rfl rfl rfl rfl rfl) rfl ?_)
    show AWp _ _ _ _ _ _ _
    let st2 : Nat → List Sn → AS := fun j L => [(0, .sl 400000 0 L0.length 10), (1, .val (.i a)), (2, .val (.i b)), (3, .val fc), (8, .val (.i i)), (9, .val (.i j)), (400000, .mrow 103 10 (L.map Sn.cv))]
    refine aB (awp_loop (fun m s => ∃ j L', m = j ∧ L'.length = L0.length ∧ (∀ z ∈ L', z ∈ L0) ∧ j ≤ i ∧ sink (ltG cmp) a j L' = sink (ltG cmp) a i L ∧ s = st2 j L') (s' := st2 i L) (wk_sub ⟨rfl, rfl, rfl, rfl, rfl, rfl, rfl, trivial⟩) ⟨i, L, rfl, hL, hLm, Nat.le_refl _, rfl, rfl⟩ ?_)
    rintro m s ⟨j, L', hmj, hL', hLm2, hji, hJ, rfl⟩
    by_cases hja : a < j
    · obtain ⟨j, rfl⟩ : ∃ k, j = k + 1 := ⟨j - 1, by omega⟩
      obtain ⟨x, hx⟩ : ∃ x, L'[j + 1]? = some x := ⟨L'[j + 1]'(by omega), List.getElem?_eq_getElem (by omega)⟩
      obtain ⟨y, hy⟩ : ∃ y, L'[j]? = some y := ⟨L'[j]'(by omega), List.getElem?_eq_getElem (by omega)⟩
      have hx' := Sn.map_at hx
      have hy' := Sn.map_at hy
      have g : decide (((j + 1 : Nat) : Int) > (a : Int)) = true := by simp; omega
      refine aS (aS (aD (by kernel_rfl) (by kernel_rfl) ?_))
      (refine nx (aM (gN rfl) rfl rfl rfl rfl rfl) rfl ?_)
      (refine nx (aM (gN rfl) rfl rfl rfl rfl rfl) rfl ?_)
      (refine nx (a_gtr (gN rfl) rfl rfl rfl rfl rfl rfl) rfl ?_)
      (refine nx (aM (gN rfl) rfl rfl rfl rfl rfl) rfl ?_)
      (refine nx (aM (gd_on rfl rfl rfl rfl (by first | rfl | assumption | (simp; done))) rfl rfl rfl rfl rfl) rfl ?_)
      (refine nx (aM (gd_on rfl rfl rfl rfl (by first | rfl | assumption | (simp; done))) rfl rfl rfl rfl rfl) rfl ?_)
      (refine nx (aM (gd_on rfl rfl rfl rfl (by first | rfl | assumption | (simp; done))) rfl rfl rfl rfl rfl) rfl ?_)
      (refine nx (aIm (k := j + 1) (gd_on rfl rfl rfl rfl (by first | rfl | assumption | (simp; done))) rfl rfl rfl rfl rfl rfl rfl rfl rfl (by first | rfl | omega | (simp only [List.length_set, List.length_map, List.length_append, List.length_cons, List.length_nil] <;> omega) | (simp <;> omega))) rfl ?_)
      (refine nx (a_loadM (gd_on rfl rfl rfl rfl (by first | rfl | assumption | (simp; done))) rfl rfl rfl rfl rfl rfl rfl rfl (hx') rfl (by first | rfl | omega | (simp only [List.length_set, List.length_map, List.length_append, List.length_cons, List.length_nil] <;> omega) | (simp <;> omega)) rfl rfl) rfl ?_)
      (refine nx (aM (gd_on rfl rfl rfl rfl (by first | rfl | assumption | (simp; done))) rfl rfl rfl rfl rfl) rfl ?_)
      (refine nx (aM (gd_on rfl rfl rfl rfl (by first | rfl | assumption | (simp; done))) rfl rfl rfl rfl rfl) rfl ?_)
      (refine nx (a_sub (gd_on rfl rfl rfl rfl (by first | rfl | assumption | (simp; done))) rfl rfl rfl rfl rfl rfl (by first | omega | (simp only [List.length_map, List.length_append, List.length_cons, List.length_nil] <;> omega) | (simp <;> omega))) rfl ?_)
      (refine nx (aIm (k := j) (gd_on rfl rfl rfl rfl (by first | rfl | assumption | (simp; done))) rfl rfl rfl rfl rfl rfl rfl rfl rfl (by first | rfl | omega | (simp only [List.length_set, List.length_map, List.length_append, List.length_cons, List.length_nil] <;> omega) | (simp <;> omega))) rfl ?_)
      (refine nx (a_loadM (gd_on rfl rfl rfl rfl (by first | rfl | assumption | (simp; done))) rfl rfl rfl rfl rfl rfl rfl rfl (hy') rfl (by first | rfl | omega | (simp only [List.length_set, List.length_map, List.length_append, List.length_cons, List.length_nil] <;> omega) | (simp <;> omega)) rfl rfl) rfl ?_)
      (refine nx (a_callw (gd_on rfl rfl rfl rfl (by first | rfl | assumption | (simp; done))) rfl rfl rfl rfl rfl rfl (hc _ x y (hLm2 x (List.mem_of_getElem? hx)) (hLm2 y (List.mem_of_getElem? hy)))) rfl ?_)
      (refine nx (a_lss (gd_on rfl rfl rfl rfl (by first | rfl | assumption | (simp; done))) rfl rfl rfl rfl rfl rfl) rfl ?_)
      (refine ⟨_, _, _, aPt (gN rfl) rfl rfl rfl rfl rfl ?hb rfl, rfl, ?_⟩; case hb => (first | rfl | assumption | (simp; done)))
      refine ⟨by kernel_rfl, ?_⟩
      show AWp _ _ _ _ _ _ _
      refine aC rfl (fun hc1 => ?_) (fun hc1 => ?_)
      · have hlt2 : ltG cmp x y = true := hc1
        refine aK ?_
        show AWp _ _ _ _ _ _ _
        refine AWp.wk (wk_sub (s' := st2 (j + 1) L') ⟨rfl, rfl, rfl, rfl, rfl, rfl, rfl, trivial⟩) ?_
        refine aS (aB (aD (by kernel_rfl) (by kernel_rfl) ?_))
        (refine nx (aM (gN rfl) rfl rfl rfl rfl rfl) rfl ?_)
        (refine nx (aM (gN rfl) rfl rfl rfl rfl rfl) rfl ?_)
        (refine nx (aM (gN rfl) rfl rfl rfl rfl rfl) rfl ?_)
        (refine nx (aM (gN rfl) rfl rfl rfl rfl rfl) rfl ?_)
        (refine nx (a_sub (gN rfl) rfl rfl rfl rfl rfl rfl (by first | omega | (simp only [List.length_map, List.length_append, List.length_cons, List.length_nil] <;> omega) | (simp <;> omega))) rfl ?_)
        (refine nx (aM (gN rfl) rfl rfl rfl rfl rfl) rfl ?_)
        (refine nx (aM (gN rfl) rfl rfl rfl rfl rfl) rfl ?_)
        (refine nx (a_sub (gN rfl) rfl rfl rfl rfl rfl rfl (by first | omega | (simp only [List.length_map, List.length_append, List.length_cons, List.length_nil] <;> omega) | (simp <;> omega))) rfl ?_)
        (refine nx (aIm (k := j) (gN rfl) rfl rfl rfl rfl rfl rfl rfl rfl rfl (by first | rfl | omega | (simp only [List.length_set, List.length_map, List.length_append, List.length_cons, List.length_nil] <;> omega) | (simp <;> omega))) rfl ?_)
        (refine nx (a_loadM (gN rfl) rfl rfl rfl rfl rfl rfl rfl rfl (hy') rfl (by first | rfl | omega | (simp only [List.length_set, List.length_map, List.length_append, List.length_cons, List.length_nil] <;> omega) | (simp <;> omega)) rfl rfl) rfl ?_)
        (refine nx (aM (gN rfl) rfl rfl rfl rfl rfl) rfl ?_)
        (refine nx (aM (gN rfl) rfl rfl rfl rfl rfl) rfl ?_)
        (refine nx (aIm (k := j + 1) (gN rfl) rfl rfl rfl rfl rfl rfl rfl rfl rfl (by first | rfl | omega | (simp only [List.length_set, List.length_map, List.length_append, List.length_cons, List.length_nil] <;> omega) | (simp <;> omega))) rfl ?_)
        (refine nx (a_loadM (gN rfl) rfl rfl rfl rfl rfl rfl rfl rfl (hx') rfl (by first | rfl | omega | (simp only [List.length_set, List.length_map, List.length_append, List.length_cons, List.length_nil] <;> omega) | (simp <;> omega)) rfl rfl) rfl ?_)
        (refine nx (aIm (k := j + 1) (gN rfl) rfl rfl rfl rfl rfl rfl rfl rfl rfl (by first | rfl | omega | (simp only [List.length_set, List.length_map, List.length_append, List.length_cons, List.length_nil] <;> omega) | (simp <;> omega))) rfl ?_)
        (refine nx (a_storeM (gN rfl) rfl rfl rfl rfl rfl rfl (hx') rfl rfl (by first | rfl | omega | (simp only [List.length_set, List.length_map, List.length_append, List.length_cons, List.length_nil] <;> omega) | (simp <;> omega)) rfl) rfl ?_)
        (refine nx (aIm (k := j) (gN rfl) rfl rfl rfl rfl rfl rfl rfl rfl rfl (by first | rfl | omega | (simp only [List.length_set, List.length_map, List.length_append, List.length_cons, List.length_nil] <;> omega) | (simp <;> omega))) rfl ?_)
        (refine nx (a_storeM (gN rfl) rfl rfl rfl rfl rfl rfl ((by rw [List.getElem?_set_ne (by omega)]; exact hy')) rfl rfl (by first | rfl | omega | (simp only [List.length_set, List.length_map, List.length_append, List.length_cons, List.length_nil] <;> omega) | (simp <;> omega)) rfl) rfl ?_)
        refine ⟨by kernel_rfl, ?_⟩
        show AWp _ _ _ _ _ _ _
        refine aR ?_
        (refine nx (aM (gN rfl) rfl rfl rfl rfl rfl) rfl ?_)
        (refine nx (a_sub (gN rfl) rfl rfl rfl rfl rfl rfl (by first | omega | (simp only [List.length_map, List.length_append, List.length_cons, List.length_nil] <;> omega) | (simp <;> omega))) rfl ?_)
        (refine nx (aA (gN rfl) rfl rfl rfl rfl rfl) rfl ?_)
        refine ⟨j, st2 j ((L'.set (j + 1) y).set j x), by omega, ⟨j, _, rfl, by simp [hL'], (fun z hz => by rcases List.mem_or_eq_of_mem_set hz with hz | rfl; (rcases List.mem_or_eq_of_mem_set hz with hz | rfl; exact hLm2 z hz; exact hLm2 _ (List.mem_of_getElem? hy)); exact hLm2 _ (List.mem_of_getElem? hx)), by omega, ?_, rfl⟩, wk_sub ⟨rfl, rfl, rfl, rfl, rfl, ?_, ?_, trivial⟩⟩
        · rw [← hJ, sink_yes _ _ hx hy hja hlt2]
        · show some (AV.val (.i _)) = some (AV.val (.i _))
          congr 3; omega
        · show some (AV.mrow _ _ _) = some (AV.mrow _ _ _)
          rw [set_map_sv, set_map_sv]
      · have hlt2 : ltG cmp x y = false := hc1
        refine aE ?_
        show AWp _ _ _ _ _ _ _
        refine AWp.wk (wk_sub (s' := st2 (j + 1) L') ⟨rfl, rfl, rfl, rfl, rfl, rfl, rfl, trivial⟩) ?_
        refine aR ?_
        (refine nx (aM (gN rfl) rfl rfl rfl rfl rfl) rfl ?_)
        (refine nx (a_add (gN rfl) rfl rfl rfl rfl rfl rfl (by first | omega | (simp only [List.length_map, List.length_append, List.length_cons, List.length_nil] <;> omega) | (simp <;> omega))) rfl ?_)
        (refine nx (aA (gN rfl) rfl rfl rfl rfl rfl) rfl ?_)
        refine ⟨(b + 1) - (i + 1), st (i + 1) L', by omega, ⟨i + 1, L', rfl, hL', hLm2, by omega, ?_, rfl⟩, wk_sub ⟨rfl, rfl, rfl, rfl, rfl, rfl, trivial⟩⟩
        have hs : L' = sink (ltG cmp) a i L := by rw [← hJ, sink_no _ _ hx hy hlt2]
        rw [← hI, show b - i = (b - (i + 1)) + 1 by omega, isortN, hs]
    · have g : decide ((j : Int) > (a : Int)) = false := by simp; omega
      refine aS (aS (aD (by kernel_rfl) (by kernel_rfl) ?_))
      (refine nx (aM (gN rfl) rfl rfl rfl rfl rfl) rfl ?_)
      (refine nx (aM (gN rfl) rfl rfl rfl rfl rfl) rfl ?_)
      (refine nx (a_gtr (gN rfl) rfl rfl rfl rfl rfl rfl) rfl ?_)
      (refine nx (aM (gN rfl) rfl rfl rfl rfl rfl) rfl ?_)
      (refine ⟨_, _, _, a_off (go_off rfl rfl rfl rfl (by first | rfl | assumption | (simp; done) | (simp [*]; done))) rfl rfl rfl, rfl, ?_⟩)
      (refine ⟨_, _, _, a_off (go_off rfl rfl rfl rfl (by first | rfl | assumption | (simp; done) | (simp [*]; done))) rfl rfl rfl, rfl, ?_⟩)
      (refine ⟨_, _, _, a_off (go_off rfl rfl rfl rfl (by first | rfl | assumption | (simp; done) | (simp [*]; done))) rfl rfl rfl, rfl, ?_⟩)
      (refine ⟨_, _, _, a_off (go_off rfl rfl rfl rfl (by first | rfl | assumption | (simp; done) | (simp [*]; done))) rfl rfl rfl, rfl, ?_⟩)
      (refine ⟨_, _, _, a_off (go_off rfl rfl rfl rfl (by first | rfl | assumption | (simp; done) | (simp [*]; done))) rfl rfl rfl, rfl, ?_⟩)
      (refine ⟨_, _, _, a_off (go_off rfl rfl rfl rfl (by first | rfl | assumption | (simp; done) | (simp [*]; done))) rfl rfl rfl, rfl, ?_⟩)
      (refine ⟨_, _, _, a_off (go_off rfl rfl rfl rfl (by first | rfl | assumption | (simp; done) | (simp [*]; done))) rfl rfl rfl, rfl, ?_⟩)
      (refine ⟨_, _, _, a_off (go_off rfl rfl rfl rfl (by first | rfl | assumption | (simp; done) | (simp [*]; done))) rfl rfl rfl, rfl, ?_⟩)
      (refine ⟨_, _, _, a_off (go_off rfl rfl rfl rfl (by first | rfl | assumption | (simp; done) | (simp [*]; done))) rfl rfl rfl, rfl, ?_⟩)
      (refine ⟨_, _, _, a_off (go_off rfl rfl rfl rfl (by first | rfl | assumption | (simp; done) | (simp [*]; done))) rfl rfl rfl, rfl, ?_⟩)
      (refine ⟨_, _, _, a_off (go_off rfl rfl rfl rfl (by first | rfl | assumption | (simp; done) | (simp [*]; done))) rfl rfl rfl, rfl, ?_⟩)
      (refine ⟨_, _, _, a_off (go_off rfl rfl rfl rfl (by first | rfl | assumption | (simp; done) | (simp [*]; done))) rfl rfl rfl, rfl, ?_⟩)
      (refine ⟨_, _, _, aPf (gN rfl) rfl rfl rfl rfl rfl ?hb rfl, rfl, ?_⟩; case hb => (first | rfl | assumption | (simp; done)))
      refine ⟨by kernel_rfl, ?_⟩
      show AWp _ _ _ _ _ _ _
      refine aC rfl (fun hc1 => ?_) (fun hc1 => ?_)
      · cases hc1
      · refine aE ?_
        show AWp _ _ _ _ _ _ _
        refine AWp.wk (wk_sub (s' := st2 (j) L') ⟨rfl, rfl, rfl, rfl, rfl, rfl, rfl, trivial⟩) ?_
        refine aR ?_
        (refine nx (aM (gN rfl) rfl rfl rfl rfl rfl) rfl ?_)
        (refine nx (a_add (gN rfl) rfl rfl rfl rfl rfl rfl (by first | omega | (simp only [List.length_map, List.length_append, List.length_cons, List.length_nil] <;> omega) | (simp <;> omega))) rfl ?_)
        (refine nx (aA (gN rfl) rfl rfl rfl rfl rfl) rfl ?_)
        refine ⟨(b + 1) - (i + 1), st (i + 1) L', by omega, ⟨i + 1, L', rfl, hL', hLm2, by omega, ?_, rfl⟩, wk_sub ⟨rfl, rfl, rfl, rfl, rfl, rfl, trivial⟩⟩
        have hs : L' = sink (ltG cmp) a i L := by rw [← hJ, sink_stop _ _ hja]
        rw [← hI, show b - i = (b - (i + 1)) + 1 by omega, isortN, hs]
  · have hib : ¬ i < b := by simpa using hlt
    refine aE ?_
    refine ⟨.inl rfl, _, Wk.refl _, rfl, ?_, trivial⟩
    show some (AV.mrow _ _ _) = some (AV.mrow _ _ _)
    rw [show b - i = 0 by omega] at hI
    rw [← hI]
    rfl
-- 
theorem stableSn_abs (cmp : Sn → Sn → Int) (fc : CV) (L : List Sn) (hn : L.length < 20) (hc : ∀ W x y, x ∈ L → y ∈ L → AFunW Tryz.prog W fc [x.cw, y.cw] (.val (.i (cmp x y)))) :
    AFunO Tryz.prog 99 [(400000, .mrow 103 10 (L.map Sn.cv))] [.sl 400000 0 L.length 10, .val (.i L.length), .val fc] (.tup []) [(400000, .mrow 103 10 ((isortN (ltG cmp) 0 (L.length - 1) 1 L).map Sn.cv))] := by
  refine afunO_of Tryz.func99 Tryz.ntmps99 rfl rfl rfl rfl rfl rfl ?_
  intro w U hU
  refine aS (aR ?_)
  (refine nx (aA (gN rfl) rfl rfl rfl rfl rfl) rfl ?_)
  show AWp _ _ _ _ _ _ _
  refine aS (aR ?_)
  (refine nx (aM (gN rfl) rfl rfl rfl rfl rfl) rfl ?_)
  (refine nx (aA (gN rfl) rfl rfl rfl rfl rfl) rfl ?_)
  (refine nx (aA (gN rfl) rfl rfl rfl rfl rfl) rfl ?_)
  show AWp _ _ _ _ _ _ _
  let st : AS := [(0, .sl 400000 0 L.length 10), (1, .val (.i L.length)), (2, .val fc), (6, .val (.i 20)), (7, .val (.i 0)), (8, .val (.i 20)), (400000, .mrow 103 10 (L.map Sn.cv))]
  refine aS (aB (awp_count 0 (fun k => st) (wk_sub ⟨rfl, rfl, rfl, rfl, rfl, rfl, rfl, trivial⟩) ?_))
  intro k hk
  refine aS (aS (aR ?_))
  (refine nx (aM (gN rfl) rfl rfl rfl rfl rfl) rfl ?_)
  (refine nx (aM (gN rfl) rfl rfl rfl rfl rfl) rfl ?_)
  (refine nx (a_leq (gN rfl) rfl rfl rfl rfl rfl rfl) rfl ?_)
  show AWp _ _ _ _ _ _ _
  refine aC rfl (fun h => ?_) (fun _ => ?_)
  · exfalso
    have h : decide ((20 : Int) ≤ (L.length : Int)) = true := h
    simp at h
    omega
  refine aE ?_
  show AWp _ _ _ _ _ _ _
  refine AWp.wk (wk_sub (s' := st) ⟨rfl, rfl, rfl, rfl, rfl, rfl, rfl, trivial⟩) ?_
  have hins := insSortSn_abs cmp fc L 0 L.length (by omega) (Nat.le_refl _) (by omega) hc
  rw [Nat.zero_add] at hins
  refine aS (aR ?_)
  (refine nx (aM (gN rfl) rfl rfl rfl rfl rfl) rfl ?_)
  (refine nx (aM (gN rfl) rfl rfl rfl rfl rfl) rfl ?_)
  (refine nx (aM (gN rfl) rfl rfl rfl rfl rfl) rfl ?_)
  (refine nx (aM (gN rfl) rfl rfl rfl rfl rfl) rfl ?_)
  (refine nx (a_callO (gN rfl) rfl rfl rfl rfl rfl (hins) (by repeat (first | exact trivial | refine ⟨rfl, ?_⟩)) (by first | rfl | kernel_rfl) (by first | rfl | kernel_rfl) (by first | rfl | kernel_rfl) (by first | rfl | kernel_rfl) (hnb_of (by first | rfl | kernel_rfl))) rfl ?_)
  show AWp _ _ _ _ _ _ _
  refine aB (awp_count 0 (fun k => [(1, .val (.i L.length)), (6, .val (.i 20)), (400000, .mrow 103 10 ((isortN (ltG cmp) 0 (L.length - 1) 1 L).map Sn.cv))]) (wk_sub ⟨rfl, rfl, rfl, trivial⟩) ?_)
  intro k hk
  refine aS (aS (aR ?_))
  (refine nx (aM (gN rfl) rfl rfl rfl rfl rfl) rfl ?_)
  (refine nx (aM (gN rfl) rfl rfl rfl rfl rfl) rfl ?_)
  (refine nx (a_lss (gN rfl) rfl rfl rfl rfl rfl rfl) rfl ?_)
  show AWp _ _ _ _ _ _ _
  refine aC rfl (fun h => ?_) (fun _ => ?_)
  · exfalso
    have h : decide ((20 : Int) < (L.length : Int)) = true := h
    simp at h
    omega
  refine aE ?_
  exact ⟨.inl rfl, _, Wk.refl _, rfl, rfl, trivial⟩
-- 
theorem sortStableSn_abs (cmp : Sn → Sn → Int) (fc : CV) (L : List Sn) (hn : L.length < 20) (hc : ∀ W x y, x ∈ L → y ∈ L → AFunW Tryz.prog W fc [x.cw, y.cw] (.val (.i (cmp x y)))) :
    AFunO Tryz.prog 68 [(400000, .mrow 103 10 (L.map Sn.cv))] [.sl 400000 0 L.length 10, .val fc] (.tup []) [(400000, .mrow 103 10 ((isortN (ltG cmp) 0 (L.length - 1) 1 L).map Sn.cv))] := by
  refine afunO_of Tryz.func68 Tryz.ntmps68 rfl rfl rfl rfl rfl rfl ?_
  intro w U hU
  have hst := stableSn_abs cmp fc L hn hc
  refine aR ?_
  (refine nx (aM (gN rfl) rfl rfl rfl rfl rfl) rfl ?_)
  (refine nx (aM (gN rfl) rfl rfl rfl rfl rfl) rfl ?_)
  (refine nx (a_lenM (gN rfl) rfl rfl rfl rfl rfl rfl rfl) rfl ?_)
  (refine nx (aM (gN rfl) rfl rfl rfl rfl rfl) rfl ?_)
  (refine nx (a_callO (gN rfl) rfl rfl rfl rfl rfl (hst) (by repeat (first | exact trivial | refine ⟨rfl, ?_⟩)) (by first | rfl | kernel_rfl) (by first | rfl | kernel_rfl) (by first | rfl | kernel_rfl) (by first | rfl | kernel_rfl) (hnb_of (by first | rfl | kernel_rfl))) rfl ?_)
  exact ⟨.inl rfl, _, Wk.refl _, rfl, rfl, trivial⟩

-- 
theorem insSortI_abs (cmp : Int → Int → Int) (fc : CV) (L0 : List Int) (a b : Nat) (ha : a ≤ L0.length) (hb : b ≤ L0.length) (hn : L0.length ≤ 1000000000) (hc : ∀ W x y, x ∈ L0 → y ∈ L0 → AFunW Tryz.prog W fc [(CV.i x), (CV.i y)] (.val (.i (cmp x y)))) :
    AFunO Tryz.prog 131 [(400000, .mrow 3 1 (L0.map CV.i))] [.sl 400000 0 L0.length 1, .val (.i a), .val (.i b), .val fc] (.tup []) [(400000, .mrow 3 1 ((isortN (ltG cmp) a (b - (a + 1)) (a + 1) L0).map CV.i))] := by
  refine afunO_of Tryz.func131 Tryz.ntmps131 rfl rfl rfl rfl rfl rfl ?_
  intro w U hU
  obtain ⟨T, hT⟩ : ∃ T, T = isortN (ltG cmp) a (b - (a + 1)) (a + 1) L0 := ⟨_, rfl⟩
  rw [← hT]
  refine aS (aR ?_)
  (refine nx (aM (gN rfl) rfl rfl rfl rfl rfl) rfl ?_)
  (refine nx (a_add (gN rfl) rfl rfl rfl rfl rfl rfl (by first | omega | (simp only [List.length_map, List.length_append, List.length_cons, List.length_nil] <;> omega) | (simp <;> omega))) rfl ?_)
  (refine nx (aA (gN rfl) rfl rfl rfl rfl rfl) rfl ?_)
  show AWp _ _ _ _ _ _ _
  let st : Nat → List Int → AS := fun i L => [(0, .sl 400000 0 L0.length 1), (1, .val (.i a)), (2, .val (.i b)), (3, .val fc), (8, .val (.i i)), (400000, .mrow 3 1 (L.map CV.i))]
  refine aB (awp_loop (fun m s => ∃ i L, m = (b + 1) - i ∧ L.length = L0.length ∧ (∀ z ∈ L, z ∈ L0) ∧ a + 1 ≤ i ∧ isortN (ltG cmp) a (b - i) i L = T ∧ s = st i L) (s' := st (a + 1) L0) (wk_sub ⟨rfl, rfl, rfl, rfl, rfl, rfl, trivial⟩) ⟨a + 1, L0, rfl, rfl, (fun z hz => hz), Nat.le_refl _, hT.symm, rfl⟩ ?_)
  rintro m s ⟨i, L, rfl, hL, hLm, hi, hI, rfl⟩
  refine aS (aS (aR ?_))
  (refine nx (aM (gN rfl) rfl rfl rfl rfl rfl) rfl ?_)
  (refine nx (aM (gN rfl) rfl rfl rfl rfl rfl) rfl ?_)
  (refine nx (a_lss (gN rfl) rfl rfl rfl rfl rfl rfl) rfl ?_)
  show AWp _ _ _ _ _ _ _
  refine aC rfl (fun hlt => ?_) (fun hlt => ?_)
  · have hib : i < b := by simpa using hlt
    refine aK ?_
    show AWp _ _ _ _ _ _ _
    refine aS (aB (aS (aR ?_)))
    (refine nx (aM (gN rfl) rfl rfl rfl rfl rfl) rfl ?_)
    (refine nx (aA (gN rfl) rfl rfl rfl rfl rfl) rfl ?_)
    show AWp _ _ _ _ _ _ _
    let st2 : Nat → List Int → AS := fun j L => [(0, .sl 400000 0 L0.length 1), (1, .val (.i a)), (2, .val (.i b)), (3, .val fc), (8, .val (.i i)), (9, .val (.i j)), (400000, .mrow 3 1 (L.map CV.i))]
    refine aB (awp_loop (fun m s => ∃ j L', m = j ∧ L'.length = L0.length ∧ (∀ z ∈ L', z ∈ L0) ∧ j ≤ i ∧ sink (ltG cmp) a j L' = sink (ltG cmp) a i L ∧ s = st2 j L') (s' := st2 i L) (wk_sub ⟨rfl, rfl, rfl, rfl, rfl, rfl, rfl, trivial⟩) ⟨i, L, rfl, hL, hLm, Nat.le_refl _, rfl, rfl⟩ ?_)
    rintro m s ⟨j, L', hmj, hL', hLm2, hji, hJ, rfl⟩
    by_cases hja : a < j
    · obtain ⟨j, rfl⟩ : ∃ k, j = k + 1 := ⟨j - 1, by omega⟩
      obtain ⟨x, hx⟩ : ∃ x, L'[j + 1]? = some x := ⟨L'[j + 1]'(by omega), List.getElem?_eq_getElem (by omega)⟩
      obtain ⟨y, hy⟩ : ∃ y, L'[j]? = some y := ⟨L'[j]'(by omega), List.getElem?_eq_getElem (by omega)⟩
      have hx' := ints_at hx
      have hy' := ints_at hy
      have g : decide (((j + 1 : Nat) : Int) > (a : Int)) = true := by simp; omega
      refine aS (aS (aD (by kernel_rfl) (by kernel_rfl) ?_))
      (refine nx (aM (gN rfl) rfl rfl rfl rfl rfl) rfl ?_)
      (refine nx (aM (gN rfl) rfl rfl rfl rfl rfl) rfl ?_)
      (refine nx (a_gtr (gN rfl) rfl rfl rfl rfl rfl rfl) rfl ?_)
      (refine nx (aM (gN rfl) rfl rfl rfl rfl rfl) rfl ?_)
      (refine nx (aM (gd_on rfl rfl rfl rfl (by first | rfl | assumption | (simp; done))) rfl rfl rfl rfl rfl) rfl ?_)
      (refine nx (aM (gd_on rfl rfl rfl rfl (by first | rfl | assumption | (simp; done))) rfl rfl rfl rfl rfl) rfl ?_)
      (refine nx (aM (gd_on rfl rfl rfl rfl (by first | rfl | assumption | (simp; done))) rfl rfl rfl rfl rfl) rfl ?_)
      (refine nx (aIm (k := j + 1) (gd_on rfl rfl rfl rfl (by first | rfl | assumption | (simp; done))) rfl rfl rfl rfl rfl rfl rfl rfl rfl (by first | rfl | omega | (simp only [List.length_set, List.length_map, List.length_append, List.length_cons, List.length_nil] <;> omega) | (simp <;> omega))) rfl ?_)
      (refine nx (a_loadM (gd_on rfl rfl rfl rfl (by first | rfl | assumption | (simp; done))) rfl rfl rfl rfl rfl rfl rfl rfl (hx') rfl (by first | rfl | omega | (simp only [List.length_set, List.length_map, List.length_append, List.length_cons, List.length_nil] <;> omega) | (simp <;> omega)) rfl rfl) rfl ?_)
      (refine nx (aM (gd_on rfl rfl rfl rfl (by first | rfl | assumption | (simp; done))) rfl rfl rfl rfl rfl) rfl ?_)
      (refine nx (aM (gd_on rfl rfl rfl rfl (by first | rfl | assumption | (simp; done))) rfl rfl rfl rfl rfl) rfl ?_)
      (refine nx (a_sub (gd_on rfl rfl rfl rfl (by first | rfl | assumption | (simp; done))) rfl rfl rfl rfl rfl rfl (by first | omega | (simp only [List.length_map, List.length_append, List.length_cons, List.length_nil] <;> omega) | (simp <;> omega))) rfl ?_)
      (refine nx (aIm (k := j) (gd_on rfl rfl rfl rfl (by first | rfl | assumption | (simp; done))) rfl rfl rfl rfl rfl rfl rfl rfl rfl (by first | rfl | omega | (simp only [List.length_set, List.length_map, List.length_append, List.length_cons, List.length_nil] <;> omega) | (simp <;> omega))) rfl ?_)
      (refine nx (a_loadM (gd_on rfl rfl rfl rfl (by first | rfl | assumption | (simp; done))) rfl rfl rfl rfl rfl rfl rfl rfl (hy') rfl (by first | rfl | omega | (simp only [List.length_set, List.length_map, List.length_append, List.length_cons, List.length_nil] <;> omega) | (simp <;> omega)) rfl rfl) rfl ?_)
      (refine nx (a_callw (gd_on rfl rfl rfl rfl (by first | rfl | assumption | (simp; done))) rfl rfl rfl rfl rfl rfl (hc _ x y (hLm2 x (List.mem_of_getElem? hx)) (hLm2 y (List.mem_of_getElem? hy)))) rfl ?_)
      (refine nx (a_lss (gd_on rfl rfl rfl rfl (by first | rfl | assumption | (simp; done))) rfl rfl rfl rfl rfl rfl) rfl ?_)
      (refine ⟨_, _, _, aPt (gN rfl) rfl rfl rfl rfl rfl ?hb rfl, rfl, ?_⟩; case hb => (first | rfl | assumption | (simp; done)))
      refine ⟨by kernel_rfl, ?_⟩
      show AWp _ _ _ _ _ _ _
      refine aC rfl (fun hc1 => ?_) (fun hc1 => ?_)
      · have hlt2 : ltG cmp x y = true := hc1
        refine aK ?_
        show AWp _ _ _ _ _ _ _
        refine AWp.wk (wk_sub (s' := st2 (j + 1) L') ⟨rfl, rfl, rfl, rfl, rfl, rfl, rfl, trivial⟩) ?_
        refine aS (aB (aD (by kernel_rfl) (by kernel_rfl) ?_))
        (refine nx (aM (gN rfl) rfl rfl rfl rfl rfl) rfl ?_)
        (refine nx (aM (gN rfl) rfl rfl rfl rfl rfl) rfl ?_)
        (refine nx (aM (gN rfl) rfl rfl rfl rfl rfl) rfl ?_)
        (refine nx (aM (gN rfl) rfl rfl rfl rfl rfl) rfl ?_)
        (refine nx (a_sub (gN rfl) rfl rfl rfl rfl rfl rfl (by first | omega | (simp only [List.length_map, List.length_append, List.length_cons, List.length_nil] <;> omega) | (simp <;> omega))) rfl ?_)
        (refine nx (aM (gN rfl) rfl rfl rfl rfl rfl) rfl ?_)
        (refine nx (aM (gN rfl) rfl rfl rfl rfl rfl) rfl ?_)
        (refine nx (a_sub (gN rfl) rfl rfl rfl rfl rfl rfl (by first | omega | (simp only [List.length_map, List.length_append, List.length_cons, List.length_nil] <;> omega) | (simp <;> omega))) rfl ?_)
        (refine nx (aIm (k := j) (gN rfl) rfl rfl rfl rfl rfl rfl rfl rfl rfl (by first | rfl | omega | (simp only [List.length_set, List.length_map, List.length_append, List.length_cons, List.length_nil] <;> omega) | (simp <;> omega))) rfl ?_)
        (refine nx (a_loadM (gN rfl) rfl rfl rfl rfl rfl rfl rfl rfl (hy') rfl (by first | rfl | omega | (simp only [List.length_set, List.length_map, List.length_append, List.length_cons, List.length_nil] <;> omega) | (simp <;> omega)) rfl rfl) rfl ?_)
        (refine nx (aM (gN rfl) rfl rfl rfl rfl rfl) rfl ?_)
        (refine nx (aM (gN rfl) rfl rfl rfl rfl rfl) rfl ?_)
        (refine nx (aIm (k := j + 1) (gN rfl) rfl rfl rfl rfl rfl rfl rfl rfl rfl (by first | rfl | omega | (simp only [List.length_set, List.length_map, List.length_append, List.length_cons, List.length_nil] <;> omega) | (simp <;> omega))) rfl ?_)
        (refine nx (a_loadM (gN rfl) rfl rfl rfl rfl rfl rfl rfl rfl (hx') rfl (by first | rfl | omega | (simp only [List.length_set, List.length_map, List.length_append, List.length_cons, List.length_nil] <;> omega) | (simp <;> omega)) rfl rfl) rfl ?_)
        (refine nx (aIm (k := j + 1) (gN rfl) rfl rfl rfl rfl rfl rfl rfl rfl rfl (by first | rfl | omega | (simp only [List.length_set, List.length_map, List.length_append, List.length_cons, List.length_nil] <;> omega) | (simp <;> omega))) rfl ?_)
        (refine nx (a_storeM (gN rfl) rfl rfl rfl rfl rfl rfl (hx') rfl rfl (by first | rfl | omega | (simp only [List.length_set, List.length_map, List.length_append, List.length_cons, List.length_nil] <;> omega) | (simp <;> omega)) rfl) rfl ?_)
        (refine nx (aIm (k := j) (gN rfl) rfl rfl rfl rfl rfl rfl rfl rfl rfl (by first | rfl | omega | (simp only [List.length_set, List.length_map, List.length_append, List.length_cons, List.length_nil] <;> omega) | (simp <;> omega))) rfl ?_)
        (refine nx (a_storeM (gN rfl) rfl rfl rfl rfl rfl rfl ((by rw [List.getElem?_set_ne (by omega)]; exact hy')) rfl rfl (by first | rfl | omega | (simp only [List.length_set, List.length_map, List.length_append, List.length_cons, List.length_nil] <;> omega) | (simp <;> omega)) rfl) rfl ?_)
        refine ⟨by kernel_rfl, ?_⟩
        show AWp _ _ _ _ _ _ _
        refine aR ?_
        (refine nx (aM (gN rfl) rfl rfl rfl rfl rfl) rfl ?_)
        (refine nx (a_sub (gN rfl) rfl rfl rfl rfl rfl rfl (by first | omega | (simp only [List.length_map, List.length_append, List.length_cons, List.length_nil] <;> omega) | (simp <;> omega))) rfl ?_)
        (refine nx (aA (gN rfl) rfl rfl rfl rfl rfl) rfl ?_)
        refine ⟨j, st2 j ((L'.set (j + 1) y).set j x), by omega, ⟨j, _, rfl, by simp [hL'], (fun z hz => by rcases List.mem_or_eq_of_mem_set hz with hz | rfl; (rcases List.mem_or_eq_of_mem_set hz with hz | rfl; exact hLm2 z hz; exact hLm2 _ (List.mem_of_getElem? hy)); exact hLm2 _ (List.mem_of_getElem? hx)), by omega, ?_, rfl⟩, wk_sub ⟨rfl, rfl, rfl, rfl, rfl, ?_, ?_, trivial⟩⟩
        · rw [← hJ, sink_yes _ _ hx hy hja hlt2]
        · show some (AV.val (.i _)) = some (AV.val (.i _))
          congr 3; omega
        · show some (AV.mrow _ _ _) = some (AV.mrow _ _ _)
          rw [set_map_iv, set_map_iv]
      · have hlt2 : ltG cmp x y = false := hc1
        refine aE ?_
        show AWp _ _ _ _ _ _ _
        refine AWp.wk (wk_sub (s' := st2 (j + 1) L') ⟨rfl, rfl, rfl, rfl, rfl, rfl, rfl, trivial⟩) ?_
        refine aR ?_
        (refine nx (aM (gN rfl) rfl rfl rfl rfl rfl) rfl ?_)
        (refine nx (a_add (gN rfl) rfl rfl rfl rfl rfl rfl (by first | omega | (simp only [List.length_map, List.length_append, List.length_cons, List.length_nil] <;> omega) | (simp <;> omega))) rfl ?_)
        (refine nx (aA (gN rfl) rfl rfl rfl rfl rfl) rfl ?_)
        refine ⟨(b + 1) - (i + 1), st (i + 1) L', by omega, ⟨i + 1, L', rfl, hL', hLm2, by omega, ?_, rfl⟩, wk_sub ⟨rfl, rfl, rfl, rfl, rfl, rfl, trivial⟩⟩
        have hs : L' = sink (ltG cmp) a i L := by rw [← hJ, sink_no _ _ hx hy hlt2]
        rw [← hI, show b - i = (b - (i + 1)) + 1 by omega, isortN, hs]
    · have g : decide ((j : Int) > (a : Int)) = false := by simp; omega
      refine aS (aS (aD (by kernel_rfl) (by kernel_rfl) ?_))
      (refine nx (aM (gN rfl) rfl rfl rfl rfl rfl) rfl ?_)
      (refine nx (aM (gN rfl) rfl rfl rfl rfl rfl) rfl ?_)
      (refine nx (a_gtr (gN rfl) rfl rfl rfl rfl rfl rfl) rfl ?_)
      (refine nx (aM (gN rfl) rfl rfl rfl rfl rfl) rfl ?_)
      (refine ⟨_, _, _, a_off (go_off rfl rfl rfl rfl (by first | rfl | assumption | (simp; done) | (simp [*]; done))) rfl rfl rfl, rfl, ?_⟩)
      (refine ⟨_, _, _, a_off (go_off rfl rfl rfl rfl (by first | rfl | assumption | (simp; done) | (simp [*]; done))) rfl rfl rfl, rfl, ?_⟩)
      (refine ⟨_, _, _, a_off (go_off rfl rfl rfl rfl (by first | rfl | assumption | (simp; done) | (simp [*]; done))) rfl rfl rfl, rfl, ?_⟩)
      (refine ⟨_, _, _, a_off (go_off rfl rfl rfl rfl (by first | rfl | assumption | (simp; done) | (simp [*]; done))) rfl rfl rfl, rfl, ?_⟩)
      (refine ⟨_, _, _, a_off (go_off rfl rfl rfl rfl (by first | rfl | assumption | (simp; done) | (simp [*]; done))) rfl rfl rfl, rfl, ?_⟩)
      (refine ⟨_, _, _, a_off (go_off rfl rfl rfl rfl (by first | rfl | assumption | (simp; done) | (simp [*]; done))) rfl rfl rfl, rfl, ?_⟩)
      (refine ⟨_, _, _, a_off (go_off rfl rfl rfl rfl (by first | rfl | assumption | (simp; done) | (simp [*]; done))) rfl rfl rfl, rfl, ?_⟩)
      (refine ⟨_, _, _, a_off (go_off rfl rfl rfl rfl (by first | rfl | assumption | (simp; done) | (simp [*]; done))) rfl rfl rfl, rfl, ?_⟩)
      (refine ⟨_, _, _, a_off (go_off rfl rfl rfl rfl (by first | rfl | assumption | (simp; done) | (simp [*]; done))) rfl rfl rfl, rfl, ?_⟩)
      (refine ⟨_, _, _, a_off (go_off rfl rfl rfl rfl (by first | rfl | assumption | (simp; done) | (simp [*]; done))) rfl rfl rfl, rfl, ?_⟩)
      (refine ⟨_, _, _, a_off (go_off rfl rfl rfl rfl (by first | rfl | assumption | (simp; done) | (simp [*]; done))) rfl rfl rfl, rfl, ?_⟩)
      (refine ⟨_, _, _, a_off (go_off rfl rfl rfl rfl (by first | rfl | assumption | (simp; done) | (simp [*]; done))) rfl rfl rfl, rfl, ?_⟩)
      (refine ⟨_, _, _, aPf (gN rfl) rfl rfl rfl rfl rfl ?hb rfl, rfl, ?_⟩; case hb => (first | rfl | assumption | (simp; done)))
      refine ⟨by kernel_rfl, ?_⟩
      show AWp _ _ _ _ _ _ _
      refine aC rfl (fun hc1 => ?_) (fun hc1 => ?_)
      · cases hc1
      · refine aE ?_
        show AWp _ _ _ _ _ _ _
        refine AWp.wk (wk_sub (s' := st2 (j) L') ⟨rfl, rfl, rfl, rfl, rfl, rfl, rfl, trivial⟩) ?_
        refine aR ?_
        (refine nx (aM (gN rfl) rfl rfl rfl rfl rfl) rfl ?_)
        (refine nx (a_add (gN rfl) rfl rfl rfl rfl rfl rfl (by first | omega | (simp only [List.length_map, List.length_append, List.length_cons, List.length_nil] <;> omega) | (simp <;> omega))) rfl ?_)
        (refine nx (aA (gN rfl) rfl rfl rfl rfl rfl) rfl ?_)
        refine ⟨(b + 1) - (i + 1), st (i + 1) L', by omega, ⟨i + 1, L', rfl, hL', hLm2, by omega, ?_, rfl⟩, wk_sub ⟨rfl, rfl, rfl, rfl, rfl, rfl, trivial⟩⟩
        have hs : L' = sink (ltG cmp) a i L := by rw [← hJ, sink_stop _ _ hja]
        rw [← hI, show b - i = (b - (i + 1)) + 1 by omega, isortN, hs]
  · have hib : ¬ i < b := by simpa using hlt
    refine aE ?_
    refine ⟨.inl rfl, _, Wk.refl _, rfl, ?_, trivial⟩
    show some (AV.mrow _ _ _) = some (AV.mrow _ _ _)
    rw [show b - i = 0 by omega] at hI
    rw [← hI]
    rfl
-- 
theorem stableI_abs (cmp : Int → Int → Int) (fc : CV) (L : List Int) (hn : L.length < 20) (hc : ∀ W x y, x ∈ L → y ∈ L → AFunW Tryz.prog W fc [(CV.i x), (CV.i y)] (.val (.i (cmp x y)))) :
    AFunO Tryz.prog 100 [(400000, .mrow 3 1 (L.map CV.i))] [.sl 400000 0 L.length 1, .val (.i L.length), .val fc] (.tup []) [(400000, .mrow 3 1 ((isortN (ltG cmp) 0 (L.length - 1) 1 L).map CV.i))] := by
  refine afunO_of Tryz.func100 Tryz.ntmps100 rfl rfl rfl rfl rfl rfl ?_
  intro w U hU
  refine aS (aR ?_)
  (refine nx (aA (gN rfl) rfl rfl rfl rfl rfl) rfl ?_)
  show AWp _ _ _ _ _ _ _
  refine aS (aR ?_)
  (refine nx (aM (gN rfl) rfl rfl rfl rfl rfl) rfl ?_)
  (refine nx (aA (gN rfl) rfl rfl rfl rfl rfl) rfl ?_)
  (refine nx (aA (gN rfl) rfl rfl rfl rfl rfl) rfl ?_)
  show AWp _ _ _ _ _ _ _
  let st : AS := [(0, .sl 400000 0 L.length 1), (1, .val (.i L.length)), (2, .val fc), (6, .val (.i 20)), (7, .val (.i 0)), (8, .val (.i 20)), (400000, .mrow 3 1 (L.map CV.i))]
  refine aS (aB (awp_count 0 (fun k => st) (wk_sub ⟨rfl, rfl, rfl, rfl, rfl, rfl, rfl, trivial⟩) ?_))
  intro k hk
  refine aS (aS (aR ?_))
  (refine nx (aM (gN rfl) rfl rfl rfl rfl rfl) rfl ?_)
  (refine nx (aM (gN rfl) rfl rfl rfl rfl rfl) rfl ?_)
  (refine nx (a_leq (gN rfl) rfl rfl rfl rfl rfl rfl) rfl ?_)
  show AWp _ _ _ _ _ _ _
  refine aC rfl (fun h => ?_) (fun _ => ?_)
  · exfalso
    have h : decide ((20 : Int) ≤ (L.length : Int)) = true := h
    simp at h
    omega
  refine aE ?_
  show AWp _ _ _ _ _ _ _
  refine AWp.wk (wk_sub (s' := st) ⟨rfl, rfl, rfl, rfl, rfl, rfl, rfl, trivial⟩) ?_
  have hins := insSortI_abs cmp fc L 0 L.length (by omega) (Nat.le_refl _) (by omega) hc
  rw [Nat.zero_add] at hins
  refine aS (aR ?_)
  (refine nx (aM (gN rfl) rfl rfl rfl rfl rfl) rfl ?_)
  (refine nx (aM (gN rfl) rfl rfl rfl rfl rfl) rfl ?_)
  (refine nx (aM (gN rfl) rfl rfl rfl rfl rfl) rfl ?_)
  (refine nx (aM (gN rfl) rfl rfl rfl rfl rfl) rfl ?_)
  (refine nx (a_callO (gN rfl) rfl rfl rfl rfl rfl (hins) (by repeat (first | exact trivial | refine ⟨rfl, ?_⟩)) (by first | rfl | kernel_rfl) (by first | rfl | kernel_rfl) (by first | rfl | kernel_rfl) (by first | rfl | kernel_rfl) (hnb_of (by first | rfl | kernel_rfl))) rfl ?_)
  show AWp _ _ _ _ _ _ _
  refine aB (awp_count 0 (fun k => [(1, .val (.i L.length)), (6, .val (.i 20)), (400000, .mrow 3 1 ((isortN (ltG cmp) 0 (L.length - 1) 1 L).map CV.i))]) (wk_sub ⟨rfl, rfl, rfl, trivial⟩) ?_)
  intro k hk
  refine aS (aS (aR ?_))
  (refine nx (aM (gN rfl) rfl rfl rfl rfl rfl) rfl ?_)
  (refine nx (aM (gN rfl) rfl rfl rfl rfl rfl) rfl ?_)
  (refine nx (a_lss (gN rfl) rfl rfl rfl rfl rfl rfl) rfl ?_)
  show AWp _ _ _ _ _ _ _
  refine aC rfl (fun h => ?_) (fun _ => ?_)
  · exfalso
    have h : decide ((20 : Int) < (L.length : Int)) = true := h
    simp at h
    omega
  refine aE ?_
  exact ⟨.inl rfl, _, Wk.refl _, rfl, rfl, trivial⟩
-- 
theorem sortStableI_abs (cmp : Int → Int → Int) (fc : CV) (L : List Int) (hn : L.length < 20) (hc : ∀ W x y, x ∈ L → y ∈ L → AFunW Tryz.prog W fc [(CV.i x), (CV.i y)] (.val (.i (cmp x y)))) :
    AFunO Tryz.prog 70 [(400000, .mrow 3 1 (L.map CV.i))] [.sl 400000 0 L.length 1, .val fc] (.tup []) [(400000, .mrow 3 1 ((isortN (ltG cmp) 0 (L.length - 1) 1 L).map CV.i))] := by
  refine afunO_of Tryz.func70 Tryz.ntmps70 rfl rfl rfl rfl rfl rfl ?_
  intro w U hU
  have hst := stableI_abs cmp fc L hn hc
  refine aR ?_
  (refine nx (aM (gN rfl) rfl rfl rfl rfl rfl) rfl ?_)
  (refine nx (aM (gN rfl) rfl rfl rfl rfl rfl) rfl ?_)
  (refine nx (a_lenM (gN rfl) rfl rfl rfl rfl rfl rfl rfl) rfl ?_)
  (refine nx (aM (gN rfl) rfl rfl rfl rfl rfl) rfl ?_)
  (refine nx (a_callO (gN rfl) rfl rfl rfl rfl rfl (hst) (by repeat (first | exact trivial | refine ⟨rfl, ?_⟩)) (by first | rfl | kernel_rfl) (by first | rfl | kernel_rfl) (by first | rfl | kernel_rfl) (by first | rfl | kernel_rfl) (hnb_of (by first | rfl | kernel_rfl))) rfl ?_)
  exact ⟨.inl rfl, _, Wk.refl _, rfl, rfl, trivial⟩

-- 
theorem compactI_abs (q : Int → Int → Bool) (fc : CV) (L : List Int) (hn : L.length ≤ 1000000000) (hc : ∀ W x y, x ∈ L → y ∈ L → AFunW Tryz.prog W fc [(CV.i x), (CV.i y)] (.val (.b (q x y)))) :
    AFunO Tryz.prog 73 [(400000, .mrow 3 1 (L.map CV.i))] [.sl 400000 0 L.length 1, .val fc] (.sl 400000 0 (cptG q L L.length).length 1) [(400000, .mrow 3 1 ((cptG q L L.length ++ List.replicate (L.length - (cptG q L L.length).length) (0 : Int)).map CV.i))] := by
  refine afunO_of Tryz.func73 Tryz.ntmps73 rfl rfl rfl rfl rfl rfl ?_
  intro w U hU
  have hwhole : cptG q L L.length = L → (cptG q L L.length).length = L.length ∧ (cptG q L L.length ++ List.replicate (L.length - (cptG q L L.length).length) (0 : Int)) = L := fun h => by rw [h]; simp
  refine aS (aR ?_)
  (refine nx (aA (gN rfl) rfl rfl rfl rfl rfl) rfl ?_)
  show AWp _ _ _ _ _ _ _
  refine aS (aS (aR ?_))
  (refine nx (aM (gN rfl) rfl rfl rfl rfl rfl) rfl ?_)
  (refine nx (a_lenM (gN rfl) rfl rfl rfl rfl rfl rfl rfl) rfl ?_)
  (refine nx (a_lss (gN rfl) rfl rfl rfl rfl rfl rfl) rfl ?_)
  show AWp _ _ _ _ _ _ _
  refine aC rfl (fun h2 => ?_) (fun h2 => ?_)
  · have h2 : L.length < 2 := by have h2 : decide ((L.length : Int) < 2) = true := h2; simp at h2; omega
    have hw := hwhole (by
      match L, h2 with
      | [], _ => rfl
      | [x], _ => rfl)
    refine aS (aR ?_)
    (refine nx (aM (gN rfl) rfl rfl rfl rfl rfl) rfl ?_)
    (refine nx (aA (gN rfl) rfl rfl rfl rfl rfl) rfl ?_)
    show AWp _ _ _ _ _ _ _
    refine aT ⟨.inr rfl, _, Wk.refl _, ?_, ?_, trivial⟩
    · rw [hw.1]; rfl
    · rw [hw.2]; rfl
  · have h2 : 2 ≤ L.length := by have h2 : decide ((L.length : Int) < 2) = false := h2; simp at h2; omega
    refine aK ?_
    show AWp _ _ _ _ _ _ _
    refine aS (aS (aR ?_))
    (refine nx (aA (gN rfl) rfl rfl rfl rfl rfl) rfl ?_)
    show AWp _ _ _ _ _ _ _
    let st : Nat → AS := fun k => [(0, .sl 400000 0 L.length 1), (1, .val fc), (5, .val (.i ((k + 1 : Nat) : Int))), (400000, .mrow 3 1 (L.map CV.i))]
    refine aB (awp_countI L.length (fun k => k + 1 ≤ L.length ∧ cptG q L (k + 1) = L.take (k + 1)) st (wk_sub ⟨rfl, rfl, rfl, rfl, trivial⟩) ⟨by omega, cptG_one⟩ ?_)
    rintro k hk ⟨hk1, hI⟩
    refine aS (aS (aR ?_))
    (refine nx (aM (gN rfl) rfl rfl rfl rfl rfl) rfl ?_)
    (refine nx (aM (gN rfl) rfl rfl rfl rfl rfl) rfl ?_)
    (refine nx (a_lenM (gN rfl) rfl rfl rfl rfl rfl rfl rfl) rfl ?_)
    (refine nx (a_lss (gN rfl) rfl rfl rfl rfl rfl rfl) rfl ?_)
    show AWp _ _ _ _ _ _ _
    refine aC rfl (fun hlt => ?_) (fun hlt => ?_)
    · have hkl : k + 1 < L.length := by have h3 : decide ((((k + 1 : Nat) : Int)) < (L.length : Int)) = true := hlt; simp at h3; omega
      obtain ⟨x, hx⟩ : ∃ x, L[k + 1]? = some x := ⟨L[k + 1], List.getElem?_eq_getElem hkl⟩
      obtain ⟨y, hy⟩ : ∃ y, L[k]? = some y := ⟨L[k]'(by omega), List.getElem?_eq_getElem (by omega)⟩
      have hx' := ints_at hx
      have hy' := ints_at hy
      refine aK ?_
      show AWp _ _ _ _ _ _ _
      refine aS (aB (aS (aD (by kernel_rfl) (by kernel_rfl) ?_)))
      (refine nx (aM (gN rfl) rfl rfl rfl rfl rfl) rfl ?_)
      (refine nx (aM (gN rfl) rfl rfl rfl rfl rfl) rfl ?_)
      (refine nx (aM (gN rfl) rfl rfl rfl rfl rfl) rfl ?_)
      (refine nx (aIm (k := k + 1) (gN rfl) rfl rfl rfl rfl rfl rfl rfl rfl rfl (by first | rfl | omega | (simp only [List.length_set, List.length_map, List.length_append, List.length_cons, List.length_nil] <;> omega) | (simp <;> omega))) rfl ?_)
      (refine nx (a_loadM (gN rfl) rfl rfl rfl rfl rfl rfl rfl rfl (hx') rfl (by first | rfl | omega | (simp only [List.length_set, List.length_map, List.length_append, List.length_cons, List.length_nil] <;> omega) | (simp <;> omega)) rfl rfl) rfl ?_)
      (refine nx (aM (gN rfl) rfl rfl rfl rfl rfl) rfl ?_)
      (refine nx (aM (gN rfl) rfl rfl rfl rfl rfl) rfl ?_)
      (refine nx (a_sub (gN rfl) rfl rfl rfl rfl rfl rfl (by first | omega | (simp only [List.length_map, List.length_append, List.length_cons, List.length_nil] <;> omega) | (simp <;> omega))) rfl ?_)
      (refine nx (aIm (k := k) (gN rfl) rfl rfl rfl rfl rfl rfl rfl rfl rfl (by first | rfl | omega | (simp only [List.length_set, List.length_map, List.length_append, List.length_cons, List.length_nil] <;> omega) | (simp <;> omega))) rfl ?_)
      (refine nx (a_loadM (gN rfl) rfl rfl rfl rfl rfl rfl rfl rfl (hy') rfl (by first | rfl | omega | (simp only [List.length_set, List.length_map, List.length_append, List.length_cons, List.length_nil] <;> omega) | (simp <;> omega)) rfl rfl) rfl ?_)
      (refine nx (a_callw (gN rfl) rfl rfl rfl rfl rfl rfl (hc _ x y (List.mem_of_getElem? hx) (List.mem_of_getElem? hy))) rfl ?_)
      refine ⟨by kernel_rfl, ?_⟩
      show AWp _ _ _ _ _ _ _
      refine aC rfl (fun hq => ?_) (fun hq => ?_)
      · have hq : q x y = true := hq
        refine AWp.wk (wk_sub (s' := st k) ⟨rfl, rfl, rfl, rfl, trivial⟩) ?_
        refine aS (aR ?_)
        (refine nx (aM (gN rfl) rfl rfl rfl rfl rfl) rfl ?_)
        (refine nx (aM (gN rfl) rfl rfl rfl rfl rfl) rfl ?_)
        (refine nx (a_fromM (j := k + 1) (gN rfl) rfl rfl rfl rfl rfl rfl rfl rfl (by first | rfl | omega | (simp only [List.length_set, List.length_map, List.length_append, List.length_cons, List.length_nil] <;> omega) | (simp <;> omega)) (by first | rfl | omega | (simp only [List.length_set, List.length_map, List.length_append, List.length_cons, List.length_nil] <;> omega) | (simp <;> omega))) rfl ?_)
        (refine nx (aA (gN rfl) rfl rfl rfl rfl rfl) rfl ?_)
        show AWp _ _ _ _ _ _ _
        refine aS (aS (aR ?_))
        (refine nx (aA (gN rfl) rfl rfl rfl rfl rfl) rfl ?_)
        show AWp _ _ _ _ _ _ _
        let st2 : Nat → Nat → List Int → AS := fun j kk C => [(0, .sl 400000 0 L.length 1), (1, .val fc), (5, .val (.i kk)), (6, .sl 400000 (0 + (k + 1)) (L.length - (k + 1)) 1), (7, .val (.i ((j + 1 : Nat) : Int))), (400000, .mrow 3 1 (C.map CV.i))]
        have h0 : cptG q L (k + 2) = L.take (k + 1) := by rw [cptG_yes hx hy hq, hI]
        refine aB (awp_loop (fun m s => ∃ j kk C, m = L.length - j ∧ k + 1 + (j + 1) ≤ L.length ∧ kk ≤ k + 1 + j ∧ C.length = L.length ∧ C.take kk = cptG q L (k + 1 + (j + 1)) ∧ (∀ i, k + 1 + j ≤ i → C[i]? = L[i]?) ∧ s = st2 j kk C) (s' := st2 0 (k + 1) L) (wk_sub ⟨rfl, rfl, rfl, rfl, rfl, rfl, trivial⟩) ⟨0, k + 1, L, rfl, by omega, by omega, rfl, h0.symm, fun _ _ => rfl, rfl⟩ ?_)
        rintro m s ⟨j, kk, C, hm, hj1, hj2, hC, hI1, hI2, rfl⟩
        refine aS (aS (aR ?_))
        (refine nx (aM (gN rfl) rfl rfl rfl rfl rfl) rfl ?_)
        (refine nx (aM (gN rfl) rfl rfl rfl rfl rfl) rfl ?_)
        (refine nx (a_lenM (gN rfl) rfl rfl rfl rfl rfl rfl rfl) rfl ?_)
        (refine nx (a_lss (gN rfl) rfl rfl rfl rfl rfl rfl) rfl ?_)
        show AWp _ _ _ _ _ _ _
        refine aC rfl (fun hlt2 => ?_) (fun hlt2 => ?_)
        · have hjl : k + 1 + (j + 1) < L.length := by have h3 : decide ((((j + 1 : Nat) : Int)) < ((L.length - (k + 1) : Nat) : Int)) = true := hlt2; simp at h3; omega
          obtain ⟨x2, hx2⟩ : ∃ x, L[k + 1 + (j + 1)]? = some x := ⟨L[k + 1 + (j + 1)], List.getElem?_eq_getElem hjl⟩
          obtain ⟨y2, hy2⟩ : ∃ y, L[k + 1 + j]? = some y := ⟨L[k + 1 + j]'(by omega), List.getElem?_eq_getElem (by omega)⟩
          have hx2' := ints_at ((hI2 _ (by omega)).trans hx2)
          have hy2' := ints_at ((hI2 _ (by omega)).trans hy2)
          refine aK ?_
          show AWp _ _ _ _ _ _ _
          refine aS (aB (aS (aD (by kernel_rfl) (by kernel_rfl) ?_)))
          (refine nx (aM (gN rfl) rfl rfl rfl rfl rfl) rfl ?_)
          (refine nx (aM (gN rfl) rfl rfl rfl rfl rfl) rfl ?_)
          (refine nx (aM (gN rfl) rfl rfl rfl rfl rfl) rfl ?_)
          (refine nx (aIm (k := k + 1 + (j + 1)) (gN rfl) rfl rfl rfl rfl rfl rfl rfl rfl rfl (by first | rfl | omega | (simp only [List.length_set, List.length_map, List.length_append, List.length_cons, List.length_nil] <;> omega) | (simp <;> omega))) rfl ?_)
          (refine nx (a_loadM (gN rfl) rfl rfl rfl rfl rfl rfl rfl rfl (hx2') rfl (by first | rfl | omega | (simp only [List.length_set, List.length_map, List.length_append, List.length_cons, List.length_nil] <;> omega) | (simp <;> omega)) rfl rfl) rfl ?_)
          (refine nx (aM (gN rfl) rfl rfl rfl rfl rfl) rfl ?_)
          (refine nx (aM (gN rfl) rfl rfl rfl rfl rfl) rfl ?_)
          (refine nx (a_sub (gN rfl) rfl rfl rfl rfl rfl rfl (by first | omega | (simp only [List.length_map, List.length_append, List.length_cons, List.length_nil] <;> omega) | (simp <;> omega))) rfl ?_)
          (refine nx (aIm (k := k + 1 + j) (gN rfl) rfl rfl rfl rfl rfl rfl rfl rfl rfl (by first | rfl | omega | (simp only [List.length_set, List.length_map, List.length_append, List.length_cons, List.length_nil] <;> omega) | (simp <;> omega))) rfl ?_)
          (refine nx (a_loadM (gN rfl) rfl rfl rfl rfl rfl rfl rfl rfl (hy2') rfl (by first | rfl | omega | (simp only [List.length_set, List.length_map, List.length_append, List.length_cons, List.length_nil] <;> omega) | (simp <;> omega)) rfl rfl) rfl ?_)
          (refine nx (a_callw (gN rfl) rfl rfl rfl rfl rfl rfl (hc _ x2 y2 (List.mem_of_getElem? hx2) (List.mem_of_getElem? hy2))) rfl ?_)
          (refine nx (a_not (gN rfl) rfl rfl rfl rfl rfl) rfl ?_)
          refine ⟨by kernel_rfl, ?_⟩
          show AWp _ _ _ _ _ _ _
          refine aC rfl (fun hq2 => ?_) (fun hq2 => ?_)
          · have hq2 : q x2 y2 = false := by simpa using hq2
            refine AWp.wk (wk_sub (s' := st2 j kk C) ⟨rfl, rfl, rfl, rfl, rfl, rfl, trivial⟩) ?_
            obtain ⟨z2, hz2⟩ : ∃ z, C[kk]? = some z := ⟨C[kk]'(by omega), List.getElem?_eq_getElem (by omega)⟩
            have hz2' := ints_at hz2
            refine aS (aR ?_)
            (refine nx (aM (gN rfl) rfl rfl rfl rfl rfl) rfl ?_)
            (refine nx (aM (gN rfl) rfl rfl rfl rfl rfl) rfl ?_)
            (refine nx (aM (gN rfl) rfl rfl rfl rfl rfl) rfl ?_)
            (refine nx (aM (gN rfl) rfl rfl rfl rfl rfl) rfl ?_)
            (refine nx (aIm (k := k + 1 + (j + 1)) (gN rfl) rfl rfl rfl rfl rfl rfl rfl rfl rfl (by first | rfl | omega | (simp only [List.length_set, List.length_map, List.length_append, List.length_cons, List.length_nil] <;> omega) | (simp <;> omega))) rfl ?_)
            (refine nx (a_loadM (gN rfl) rfl rfl rfl rfl rfl rfl rfl rfl (hx2') rfl (by first | rfl | omega | (simp only [List.length_set, List.length_map, List.length_append, List.length_cons, List.length_nil] <;> omega) | (simp <;> omega)) rfl rfl) rfl ?_)
            (refine nx (aIm (k := kk) (gN rfl) rfl rfl rfl rfl rfl rfl rfl rfl rfl (by first | rfl | omega | (simp only [List.length_set, List.length_map, List.length_append, List.length_cons, List.length_nil] <;> omega) | (simp <;> omega))) rfl ?_)
            (refine nx (a_storeM (gN rfl) rfl rfl rfl rfl rfl rfl (hz2') rfl rfl (by first | rfl | omega | (simp only [List.length_set, List.length_map, List.length_append, List.length_cons, List.length_nil] <;> omega) | (simp <;> omega)) rfl) rfl ?_)
            show AWp _ _ _ _ _ _ _
            refine aR ?_
            (refine nx (aM (gN rfl) rfl rfl rfl rfl rfl) rfl ?_)
            (refine nx (a_add (gN rfl) rfl rfl rfl rfl rfl rfl (by first | omega | (simp only [List.length_map, List.length_append, List.length_cons, List.length_nil] <;> omega) | (simp <;> omega))) rfl ?_)
            (refine nx (aA (gN rfl) rfl rfl rfl rfl rfl) rfl ?_)
            show AWp _ _ _ _ _ _ _
            refine aR ?_
            (refine nx (aM (gN rfl) rfl rfl rfl rfl rfl) rfl ?_)
            (refine nx (a_add (gN rfl) rfl rfl rfl rfl rfl rfl (by first | omega | (simp only [List.length_map, List.length_append, List.length_cons, List.length_nil] <;> omega) | (simp <;> omega))) rfl ?_)
            (refine nx (aA (gN rfl) rfl rfl rfl rfl rfl) rfl ?_)
            refine ⟨L.length - (j + 1), st2 (j + 1) (kk + 1) (C.set kk x2), by omega, ⟨j + 1, kk + 1, C.set kk x2, rfl, by omega, by omega, by simp [hC], ?_, fun i hi => ?_, rfl⟩, wk_sub ⟨rfl, rfl, rfl, rfl, rfl, ?_, trivial⟩⟩
            · rw [set_take (by omega), hI1, show k + 1 + (j + 1 + 1) = (k + 1 + j) + 2 by omega, cptG_no (m := k + 1 + j) hx2 hy2 hq2]; rfl
            · rw [List.getElem?_set_ne (by omega)]; exact hI2 i (by omega)
            · show some (AV.mrow _ _ _) = some (AV.mrow _ _ _)
              rw [set_map_iv]
          · have hq2 : q x2 y2 = true := by simpa using hq2
            refine aK ?_
            show AWp _ _ _ _ _ _ _
            refine AWp.wk (wk_sub (s' := st2 j kk C) ⟨rfl, rfl, rfl, rfl, rfl, rfl, trivial⟩) ?_
            refine aR ?_
            (refine nx (aM (gN rfl) rfl rfl rfl rfl rfl) rfl ?_)
            (refine nx (a_add (gN rfl) rfl rfl rfl rfl rfl rfl (by first | omega | (simp only [List.length_map, List.length_append, List.length_cons, List.length_nil] <;> omega) | (simp <;> omega))) rfl ?_)
            (refine nx (aA (gN rfl) rfl rfl rfl rfl rfl) rfl ?_)
            refine ⟨L.length - (j + 1), st2 (j + 1) kk C, by omega, ⟨j + 1, kk, C, rfl, by omega, by omega, hC, ?_, fun i hi => hI2 i (by omega), rfl⟩, wk_sub ⟨rfl, rfl, rfl, rfl, rfl, rfl, trivial⟩⟩
            rw [hI1, show k + 1 + (j + 1 + 1) = (k + 1 + j) + 2 by omega, cptG_yes (m := k + 1 + j) hx2 hy2 hq2]; rfl
        · have hjl : k + 1 + (j + 1) = L.length := by have h3 : decide ((((j + 1 : Nat) : Int)) < ((L.length - (k + 1) : Nat) : Int)) = false := hlt2; simp at h3; omega
          refine aE ?_
          show AWp _ _ _ _ _ _ _
          refine AWp.wk (wk_sub (s' := st2 j kk C) ⟨rfl, rfl, rfl, rfl, rfl, rfl, trivial⟩) ?_
          refine aS (aR ?_)
          (refine nx (aM (gN rfl) rfl rfl rfl rfl rfl) rfl ?_)
          (refine nx (aM (gN rfl) rfl rfl rfl rfl rfl) rfl ?_)
          (refine nx (a_fromM (j := kk) (gN rfl) rfl rfl rfl rfl rfl rfl rfl rfl (by first | rfl | omega | (simp only [List.length_set, List.length_map, List.length_append, List.length_cons, List.length_nil] <;> omega) | (simp <;> omega)) (by first | rfl | omega | (simp only [List.length_set, List.length_map, List.length_append, List.length_cons, List.length_nil] <;> omega) | (simp <;> omega))) rfl ?_)
          (refine nx (a_clearM (gN rfl) rfl rfl rfl rfl rfl rfl rfl rfl (by first | rfl | omega | (simp only [List.length_set, List.length_map, List.length_append, List.length_cons, List.length_nil] <;> omega) | (simp <;> omega))) rfl ?_)
          show AWp _ _ _ _ _ _ _
          refine aS (aR ?_)
          (refine nx (aM (gN rfl) rfl rfl rfl rfl rfl) rfl ?_)
          (refine nx (aM (gN rfl) rfl rfl rfl rfl rfl) rfl ?_)
          (refine nx (a_uptoM (j := kk) (gN rfl) rfl rfl rfl rfl rfl rfl rfl rfl (by first | rfl | omega | (simp only [List.length_set, List.length_map, List.length_append, List.length_cons, List.length_nil] <;> omega) | (simp <;> omega)) (by first | rfl | omega | (simp only [List.length_set, List.length_map, List.length_append, List.length_cons, List.length_nil] <;> omega) | (simp <;> omega))) rfl ?_)
          (refine nx (aA (gN rfl) rfl rfl rfl rfl rfl) rfl ?_)
          show AWp _ _ _ _ _ _ _
          rw [hjl] at hI1
          have hkk : kk = (cptG q L L.length).length := by rw [← hI1]; simp; omega
          refine aT ⟨.inr rfl, _, Wk.refl _, ?_, ?_, trivial⟩
          · rw [← hkk]; rfl
          · show some (AV.mrow _ _ _) = some (AV.mrow _ _ _)
            rw [← hkk, ← hI1, List.map_append, ← List.map_take, List.map_replicate]
            simp only [Nat.zero_add]
            rw [show kk + (L.length - kk) = (C.map CV.i).length by simp; omega, List.drop_length, List.append_nil]
            rfl
      · have hq : q x y = false := hq
        refine aK ?_
        show AWp _ _ _ _ _ _ _
        refine AWp.wk (wk_sub (s' := st k) ⟨rfl, rfl, rfl, rfl, trivial⟩) ?_
        refine aR ?_
        (refine nx (aM (gN rfl) rfl rfl rfl rfl rfl) rfl ?_)
        (refine nx (a_add (gN rfl) rfl rfl rfl rfl rfl rfl (by first | omega | (simp only [List.length_map, List.length_append, List.length_cons, List.length_nil] <;> omega) | (simp <;> omega))) rfl ?_)
        (refine nx (aA (gN rfl) rfl rfl rfl rfl rfl) rfl ?_)
        refine ⟨by omega, ⟨by omega, ?_⟩, wk_sub ⟨rfl, rfl, rfl, rfl, trivial⟩⟩
        rw [cptG_no hx hy hq, hI, take_snoc hx]
    · have hkl : k + 1 = L.length := by have h3 : decide ((((k + 1 : Nat) : Int)) < (L.length : Int)) = false := hlt; simp at h3; omega
      refine aE ?_
      show AWp _ _ _ _ _ _ _
      rw [hkl, List.take_length] at hI
      have hw := hwhole hI
      refine aS (aR ?_)
      (refine nx (aM (gN rfl) rfl rfl rfl rfl rfl) rfl ?_)
      (refine nx (aA (gN rfl) rfl rfl rfl rfl rfl) rfl ?_)
      show AWp _ _ _ _ _ _ _
      refine aT ⟨.inr rfl, _, Wk.refl _, ?_, ?_, trivial⟩
      · rw [hw.1]; rfl
      · rw [hw.2]; rfl

def ltO (x y : Int) : Bool := decide (x < y)
theorem isNaN_abs (W : World) (x : Int) : AFun Tryz.prog W 150 [.i x] (.val (.b false)) := by
  refine ⟨ent_of Tryz.func150 rfl rfl, .inl rfl, rfl, ?_⟩
  rintro U w vs hW ⟨u1, us1, rfl, h1, h3⟩
  have h3 : us1 = [] := h3
  subst h3
  obtain ⟨rfl, _⟩ := vrep_sc.1 h1
  refine (isNaN_any x w).mono ?_
  rintro e w' ⟨rfl, rfl⟩
  exact ⟨_, rfl, vrep_sc.2 ⟨rfl, rfl⟩, Below.refl _ _⟩
-- 
theorem less_abs (W : World) (x y : Int) : AFun Tryz.prog W 140 [.i x, .i y] (.val (.b (ltO x y))) := by
  refine afun_of (rs := [.b (ltO x y)]) Tryz.func140 Tryz.ntmps140 rfl rfl rfl rfl ?_
  intro w U hW
  refine aS (aR ?_)
  (refine nx (aA (gN rfl) rfl rfl rfl rfl rfl) rfl ?_)
  show AWp _ _ _ _ _ _ _
  refine aS (aR ?_)
  (refine nx (aM (gN rfl) rfl rfl rfl rfl rfl) rfl ?_)
  (refine nx (a_call (gN rfl) rfl rfl rfl rfl rfl (isNaN_abs w x)) rfl ?_)
  (refine nx (aM (gN rfl) rfl rfl rfl rfl rfl) rfl ?_)
  (refine ⟨_, _, _, a_off (go_off rfl rfl rfl rfl (by first | rfl | assumption | (simp; done) | (simp [*]; done))) rfl rfl rfl, rfl, ?_⟩)
  (refine ⟨_, _, _, a_off (go_off rfl rfl rfl rfl (by first | rfl | assumption | (simp; done) | (simp [*]; done))) rfl rfl rfl, rfl, ?_⟩)
  (refine ⟨_, _, _, a_off (go_off rfl rfl rfl rfl (by first | rfl | assumption | (simp; done) | (simp [*]; done))) rfl rfl rfl, rfl, ?_⟩)
  (refine ⟨_, _, _, aPf (gN rfl) rfl rfl rfl rfl rfl ?hb rfl, rfl, ?_⟩; case hb => (first | rfl | assumption | (simp; done)))
  (refine nx (aM (gN rfl) rfl rfl rfl rfl rfl) rfl ?_)
  (refine nx (aM (gd_on rfl rfl rfl rfl (by first | rfl | assumption | (simp; done))) rfl rfl rfl rfl rfl) rfl ?_)
  (refine nx (aM (gd_on rfl rfl rfl rfl (by first | rfl | assumption | (simp; done))) rfl rfl rfl rfl rfl) rfl ?_)
  (refine nx (a_lss (gd_on rfl rfl rfl rfl (by first | rfl | assumption | (simp; done))) rfl rfl rfl rfl rfl rfl) rfl ?_)
  (refine ⟨_, _, _, aPf (gN rfl) rfl rfl rfl rfl rfl ?hb rfl, rfl, ?_⟩; case hb => (first | rfl | assumption | (simp; done)))
  (refine nx (aA (gN rfl) rfl rfl rfl rfl rfl) rfl ?_)
  show AWp _ _ _ _ _ _ _
  exact aT (And.intro (.inr rfl) rfl)
-- 
theorem insOrd_abs (L0 : List Int) (n a b : Nat) (hbn : b ≤ n) (hnl : n ≤ L0.length) (ha : a ≤ L0.length) (hb : b ≤ L0.length) (hn : L0.length ≤ 1000000000) :
    AFunO Tryz.prog 134 [(400000, .mrow 3 1 (L0.map CV.i))] [.sl 400000 0 n 1, .val (.i a), .val (.i b)] (.tup []) [(400000, .mrow 3 1 ((isortN (ltO) a (b - (a + 1)) (a + 1) L0).map CV.i))] := by
  refine afunO_of Tryz.func134 Tryz.ntmps134 rfl rfl rfl rfl rfl rfl ?_
  intro w U hU
  obtain ⟨T, hT⟩ : ∃ T, T = isortN (ltO) a (b - (a + 1)) (a + 1) L0 := ⟨_, rfl⟩
  rw [← hT]
  refine aS (aR ?_)
  (refine nx (aM (gN rfl) rfl rfl rfl rfl rfl) rfl ?_)
  (refine nx (a_add (gN rfl) rfl rfl rfl rfl rfl rfl (by first | omega | (simp only [List.length_map, List.length_append, List.length_cons, List.length_nil] <;> omega) | (simp <;> omega))) rfl ?_)
  (refine nx (aA (gN rfl) rfl rfl rfl rfl rfl) rfl ?_)
  show AWp _ _ _ _ _ _ _
  let st : Nat → List Int → AS := fun i L => [(0, .sl 400000 0 n 1), (1, .val (.i a)), (2, .val (.i b)), (6, .val (.i i)), (400000, .mrow 3 1 (L.map CV.i))]
  refine aB (awp_loop (fun m s => ∃ i L, m = (b + 1) - i ∧ L.length = L0.length ∧ a + 1 ≤ i ∧ isortN (ltO) a (b - i) i L = T ∧ s = st i L) (s' := st (a + 1) L0) (wk_sub ⟨rfl, rfl, rfl, rfl, rfl, trivial⟩) ⟨a + 1, L0, rfl, rfl, Nat.le_refl _, hT.symm, rfl⟩ ?_)
  rintro m s ⟨i, L, rfl, hL, hi, hI, rfl⟩
  refine aS (aS (aR ?_))
  (refine nx (aM (gN rfl) rfl rfl rfl rfl rfl) rfl ?_)
  (refine nx (aM (gN rfl) rfl rfl rfl rfl rfl) rfl ?_)
  (refine nx (a_lss (gN rfl) rfl rfl rfl rfl rfl rfl) rfl ?_)
  show AWp _ _ _ _ _ _ _
  refine aC rfl (fun hlt => ?_) (fun hlt => ?_)
  · have hib : i < b := by simpa using hlt
    refine aK ?_
    show AWp _ _ _ _ _ _ _
    refine aS (aB (aS (aR ?_)))
    (refine nx (aM (gN rfl) rfl rfl rfl rfl rfl) rfl ?_)
    (refine nx (aA (gN rfl) rfl rfl rfl rfl rfl) rfl ?_)
    show AWp _ _ _ _ _ _ _
    let st2 : Nat → List Int → AS := fun j L => [(0, .sl 400000 0 n 1), (1, .val (.i a)), (2, .val (.i b)), (6, .val (.i i)), (7, .val (.i j)), (400000, .mrow 3 1 (L.map CV.i))]
    refine aB (awp_loop (fun m s => ∃ j L', m = j ∧ L'.length = L0.length ∧ j ≤ i ∧ sink (ltO) a j L' = sink (ltO) a i L ∧ s = st2 j L') (s' := st2 i L) (wk_sub ⟨rfl, rfl, rfl, rfl, rfl, rfl, trivial⟩) ⟨i, L, rfl, hL, Nat.le_refl _, rfl, rfl⟩ ?_)
    rintro m s ⟨j, L', hmj, hL', hji, hJ, rfl⟩
    by_cases hja : a < j
    · obtain ⟨j, rfl⟩ : ∃ k, j = k + 1 := ⟨j - 1, by omega⟩
      obtain ⟨x, hx⟩ : ∃ x, L'[j + 1]? = some x := ⟨L'[j + 1]'(by omega), List.getElem?_eq_getElem (by omega)⟩
      obtain ⟨y, hy⟩ : ∃ y, L'[j]? = some y := ⟨L'[j]'(by omega), List.getElem?_eq_getElem (by omega)⟩
      have hx' := ints_at hx
      have hy' := ints_at hy
      have g : decide (((j + 1 : Nat) : Int) > (a : Int)) = true := by simp; omega
      refine aS (aS (aD (by kernel_rfl) (by kernel_rfl) ?_))
      (refine nx (aM (gN rfl) rfl rfl rfl rfl rfl) rfl ?_)
      (refine nx (aM (gN rfl) rfl rfl rfl rfl rfl) rfl ?_)
      (refine nx (a_gtr (gN rfl) rfl rfl rfl rfl rfl rfl) rfl ?_)
      (refine nx (aM (gN rfl) rfl rfl rfl rfl rfl) rfl ?_)
      (refine nx (aM (gd_on rfl rfl rfl rfl (by first | rfl | assumption | (simp; done))) rfl rfl rfl rfl rfl) rfl ?_)
      (refine nx (aM (gd_on rfl rfl rfl rfl (by first | rfl | assumption | (simp; done))) rfl rfl rfl rfl rfl) rfl ?_)
      (refine nx (aIm (k := j + 1) (gd_on rfl rfl rfl rfl (by first | rfl | assumption | (simp; done))) rfl rfl rfl rfl rfl rfl rfl rfl rfl (by first | rfl | omega | (simp only [List.length_set, List.length_map, List.length_append, List.length_cons, List.length_nil] <;> omega) | (simp <;> omega))) rfl ?_)
      (refine nx (a_loadM (gd_on rfl rfl rfl rfl (by first | rfl | assumption | (simp; done))) rfl rfl rfl rfl rfl rfl rfl rfl (hx') rfl (by first | rfl | omega | (simp only [List.length_set, List.length_map, List.length_append, List.length_cons, List.length_nil] <;> omega) | (simp <;> omega)) rfl rfl) rfl ?_)
      (refine nx (aM (gd_on rfl rfl rfl rfl (by first | rfl | assumption | (simp; done))) rfl rfl rfl rfl rfl) rfl ?_)
      (refine nx (aM (gd_on rfl rfl rfl rfl (by first | rfl | assumption | (simp; done))) rfl rfl rfl rfl rfl) rfl ?_)
      (refine nx (a_sub (gd_on rfl rfl rfl rfl (by first | rfl | assumption | (simp; done))) rfl rfl rfl rfl rfl rfl (by first | omega | (simp only [List.length_map, List.length_append, List.length_cons, List.length_nil] <;> omega) | (simp <;> omega))) rfl ?_)
      (refine nx (aIm (k := j) (gd_on rfl rfl rfl rfl (by first | rfl | assumption | (simp; done))) rfl rfl rfl rfl rfl rfl rfl rfl rfl (by first | rfl | omega | (simp only [List.length_set, List.length_map, List.length_append, List.length_cons, List.length_nil] <;> omega) | (simp <;> omega))) rfl ?_)
      (refine nx (a_loadM (gd_on rfl rfl rfl rfl (by first | rfl | assumption | (simp; done))) rfl rfl rfl rfl rfl rfl rfl rfl (hy') rfl (by first | rfl | omega | (simp only [List.length_set, List.length_map, List.length_append, List.length_cons, List.length_nil] <;> omega) | (simp <;> omega)) rfl rfl) rfl ?_)
      (refine nx (a_call (gd_on rfl rfl rfl rfl (by first | rfl | assumption | (simp; done))) rfl rfl rfl rfl rfl (less_abs _ x y)) rfl ?_)
      (refine ⟨_, _, _, aPt (gN rfl) rfl rfl rfl rfl rfl ?hb rfl, rfl, ?_⟩; case hb => (first | rfl | assumption | (simp; done)))
      refine ⟨by kernel_rfl, ?_⟩
      show AWp _ _ _ _ _ _ _
      refine aC rfl (fun hc1 => ?_) (fun hc1 => ?_)
      · have hlt2 : ltO x y = true := hc1
        refine aK ?_
        show AWp _ _ _ _ _ _ _
        refine AWp.wk (wk_sub (s' := st2 (j + 1) L') ⟨rfl, rfl, rfl, rfl, rfl, rfl, trivial⟩) ?_
        refine aS (aB (aD (by kernel_rfl) (by kernel_rfl) ?_))
        (refine nx (aM (gN rfl) rfl rfl rfl rfl rfl) rfl ?_)
        (refine nx (aM (gN rfl) rfl rfl rfl rfl rfl) rfl ?_)
        (refine nx (aM (gN rfl) rfl rfl rfl rfl rfl) rfl ?_)
        (refine nx (aM (gN rfl) rfl rfl rfl rfl rfl) rfl ?_)
        (refine nx (a_sub (gN rfl) rfl rfl rfl rfl rfl rfl (by first | omega | (simp only [List.length_map, List.length_append, List.length_cons, List.length_nil] <;> omega) | (simp <;> omega))) rfl ?_)
        (refine nx (aM (gN rfl) rfl rfl rfl rfl rfl) rfl ?_)
        (refine nx (aM (gN rfl) rfl rfl rfl rfl rfl) rfl ?_)
        (refine nx (a_sub (gN rfl) rfl rfl rfl rfl rfl rfl (by first | omega | (simp only [List.length_map, List.length_append, List.length_cons, List.length_nil] <;> omega) | (simp <;> omega))) rfl ?_)
        (refine nx (aIm (k := j) (gN rfl) rfl rfl rfl rfl rfl rfl rfl rfl rfl (by first | rfl | omega | (simp only [List.length_set, List.length_map, List.length_append, List.length_cons, List.length_nil] <;> omega) | (simp <;> omega))) rfl ?_)
        (refine nx (a_loadM (gN rfl) rfl rfl rfl rfl rfl rfl rfl rfl (hy') rfl (by first | rfl | omega | (simp only [List.length_set, List.length_map, List.length_append, List.length_cons, List.length_nil] <;> omega) | (simp <;> omega)) rfl rfl) rfl ?_)
        (refine nx (aM (gN rfl) rfl rfl rfl rfl rfl) rfl ?_)
        (refine nx (aM (gN rfl) rfl rfl rfl rfl rfl) rfl ?_)
        (refine nx (aIm (k := j + 1) (gN rfl) rfl rfl rfl rfl rfl rfl rfl rfl rfl (by first | rfl | omega | (simp only [List.length_set, List.length_map, List.length_append, List.length_cons, List.length_nil] <;> omega) | (simp <;> omega))) rfl ?_)
        (refine nx (a_loadM (gN rfl) rfl rfl rfl rfl rfl rfl rfl rfl (hx') rfl (by first | rfl | omega | (simp only [List.length_set, List.length_map, List.length_append, List.length_cons, List.length_nil] <;> omega) | (simp <;> omega)) rfl rfl) rfl ?_)
        (refine nx (aIm (k := j + 1) (gN rfl) rfl rfl rfl rfl rfl rfl rfl rfl rfl (by first | rfl | omega | (simp only [List.length_set, List.length_map, List.length_append, List.length_cons, List.length_nil] <;> omega) | (simp <;> omega))) rfl ?_)
        (refine nx (a_storeM (gN rfl) rfl rfl rfl rfl rfl rfl (hx') rfl rfl (by first | rfl | omega | (simp only [List.length_set, List.length_map, List.length_append, List.length_cons, List.length_nil] <;> omega) | (simp <;> omega)) rfl) rfl ?_)
        (refine nx (aIm (k := j) (gN rfl) rfl rfl rfl rfl rfl rfl rfl rfl rfl (by first | rfl | omega | (simp only [List.length_set, List.length_map, List.length_append, List.length_cons, List.length_nil] <;> omega) | (simp <;> omega))) rfl ?_)
        (refine nx (a_storeM (gN rfl) rfl rfl rfl rfl rfl rfl ((by rw [List.getElem?_set_ne (by omega)]; exact hy')) rfl rfl (by first | rfl | omega | (simp only [List.length_set, List.length_map, List.length_append, List.length_cons, List.length_nil] <;> omega) | (simp <;> omega)) rfl) rfl ?_)
        refine ⟨by kernel_rfl, ?_⟩
        show AWp _ _ _ _ _ _ _
        refine aR ?_
        (refine nx (aM (gN rfl) rfl rfl rfl rfl rfl) rfl ?_)
        (refine nx (a_sub (gN rfl) rfl rfl rfl rfl rfl rfl (by first | omega | (simp only [List.length_map, List.length_append, List.length_cons, List.length_nil] <;> omega) | (simp <;> omega))) rfl ?_)
        (refine nx (aA (gN rfl) rfl rfl rfl rfl rfl) rfl ?_)
        refine ⟨j, st2 j ((L'.set (j + 1) y).set j x), by omega, ⟨j, _, rfl, by simp [hL'], by omega, ?_, rfl⟩, wk_sub ⟨rfl, rfl, rfl, rfl, ?_, ?_, trivial⟩⟩
        · rw [← hJ, sink_yes _ _ hx hy hja hlt2]
        · show some (AV.val (.i _)) = some (AV.val (.i _))
          congr 3; omega
        · show some (AV.mrow _ _ _) = some (AV.mrow _ _ _)
          rw [set_map_iv, set_map_iv]
      · have hlt2 : ltO x y = false := hc1
        refine aE ?_
        show AWp _ _ _ _ _ _ _
        refine AWp.wk (wk_sub (s' := st2 (j + 1) L') ⟨rfl, rfl, rfl, rfl, rfl, rfl, trivial⟩) ?_
        refine aR ?_
        (refine nx (aM (gN rfl) rfl rfl rfl rfl rfl) rfl ?_)
        (refine nx (a_add (gN rfl) rfl rfl rfl rfl rfl rfl (by first | omega | (simp only [List.length_map, List.length_append, List.length_cons, List.length_nil] <;> omega) | (simp <;> omega))) rfl ?_)
        (refine nx (aA (gN rfl) rfl rfl rfl rfl rfl) rfl ?_)
        refine ⟨(b + 1) - (i + 1), st (i + 1) L', by omega, ⟨i + 1, L', rfl, hL', by omega, ?_, rfl⟩, wk_sub ⟨rfl, rfl, rfl, rfl, rfl, trivial⟩⟩
        have hs : L' = sink (ltO) a i L := by rw [← hJ, sink_no _ _ hx hy hlt2]
        rw [← hI, show b - i = (b - (i + 1)) + 1 by omega, isortN, hs]
    · have g : decide ((j : Int) > (a : Int)) = false := by simp; omega
      refine aS (aS (aD (by kernel_rfl) (by kernel_rfl) ?_))
      (refine nx (aM (gN rfl) rfl rfl rfl rfl rfl) rfl ?_)
      (refine nx (aM (gN rfl) rfl rfl rfl rfl rfl) rfl ?_)
      (refine nx (a_gtr (gN rfl) rfl rfl rfl rfl rfl rfl) rfl ?_)
      (refine nx (aM (gN rfl) rfl rfl rfl rfl rfl) rfl ?_)
      (refine ⟨_, _, _, a_off (go_off rfl rfl rfl rfl (by first | rfl | assumption | (simp; done) | (simp [*]; done))) rfl rfl rfl, rfl, ?_⟩)
      (refine ⟨_, _, _, a_off (go_off rfl rfl rfl rfl (by first | rfl | assumption | (simp; done) | (simp [*]; done))) rfl rfl rfl, rfl, ?_⟩)
      (refine ⟨_, _, _, a_off (go_off rfl rfl rfl rfl (by first | rfl | assumption | (simp; done) | (simp [*]; done))) rfl rfl rfl, rfl, ?_⟩)
      (refine ⟨_, _, _, a_off (go_off rfl rfl rfl rfl (by first | rfl | assumption | (simp; done) | (simp [*]; done))) rfl rfl rfl, rfl, ?_⟩)
      (refine ⟨_, _, _, a_off (go_off rfl rfl rfl rfl (by first | rfl | assumption | (simp; done) | (simp [*]; done))) rfl rfl rfl, rfl, ?_⟩)
      (refine ⟨_, _, _, a_off (go_off rfl rfl rfl rfl (by first | rfl | assumption | (simp; done) | (simp [*]; done))) rfl rfl rfl, rfl, ?_⟩)
      (refine ⟨_, _, _, a_off (go_off rfl rfl rfl rfl (by first | rfl | assumption | (simp; done) | (simp [*]; done))) rfl rfl rfl, rfl, ?_⟩)
      (refine ⟨_, _, _, a_off (go_off rfl rfl rfl rfl (by first | rfl | assumption | (simp; done) | (simp [*]; done))) rfl rfl rfl, rfl, ?_⟩)
      (refine ⟨_, _, _, a_off (go_off rfl rfl rfl rfl (by first | rfl | assumption | (simp; done) | (simp [*]; done))) rfl rfl rfl, rfl, ?_⟩)
      (refine ⟨_, _, _, a_off (go_off rfl rfl rfl rfl (by first | rfl | assumption | (simp; done) | (simp [*]; done))) rfl rfl rfl, rfl, ?_⟩)
      (refine ⟨_, _, _, aPf (gN rfl) rfl rfl rfl rfl rfl ?hb rfl, rfl, ?_⟩; case hb => (first | rfl | assumption | (simp; done)))
      refine ⟨by kernel_rfl, ?_⟩
      show AWp _ _ _ _ _ _ _
      refine aC rfl (fun hc1 => ?_) (fun hc1 => ?_)
      · cases hc1
      · refine aE ?_
        show AWp _ _ _ _ _ _ _
        refine AWp.wk (wk_sub (s' := st2 (j) L') ⟨rfl, rfl, rfl, rfl, rfl, rfl, trivial⟩) ?_
        refine aR ?_
        (refine nx (aM (gN rfl) rfl rfl rfl rfl rfl) rfl ?_)
        (refine nx (a_add (gN rfl) rfl rfl rfl rfl rfl rfl (by first | omega | (simp only [List.length_map, List.length_append, List.length_cons, List.length_nil] <;> omega) | (simp <;> omega))) rfl ?_)
        (refine nx (aA (gN rfl) rfl rfl rfl rfl rfl) rfl ?_)
        refine ⟨(b + 1) - (i + 1), st (i + 1) L', by omega, ⟨i + 1, L', rfl, hL', by omega, ?_, rfl⟩, wk_sub ⟨rfl, rfl, rfl, rfl, rfl, trivial⟩⟩
        have hs : L' = sink (ltO) a i L := by rw [← hJ, sink_stop _ _ hja]
        rw [← hI, show b - i = (b - (i + 1)) + 1 by omega, isortN, hs]
  · have hib : ¬ i < b := by simpa using hlt
    refine aE ?_
    refine ⟨.inl rfl, _, Wk.refl _, rfl, ?_, trivial⟩
    show some (AV.mrow _ _ _) = some (AV.mrow _ _ _)
    rw [show b - i = 0 by omega] at hI
    rw [← hI]
    rfl

-- 
theorem pdqO_abs (L Z : List Int) (lim : Int) (hn : L.length ≤ 12) (hz : Z.length ≤ 1000) :
    AFunO Tryz.prog 103 [(400000, .mrow 3 1 ((L ++ Z).map CV.i))] [.sl 400000 0 L.length 1, .val (.i 0), .val (.i L.length), .val (.i lim)] (.tup []) [(400000, .mrow 3 1 ((srtD ltO L ++ Z).map CV.i))] := by
  have hin := insOrd_abs (L ++ Z) L.length 0 L.length (Nat.le_refl _) (by rw [List.length_append]; omega) (by omega) (by rw [List.length_append]; omega) (by rw [List.length_append]; omega)
  have he : isortN ltO 0 (L.length - (0 + 1)) (0 + 1) (L ++ Z) = srtD ltO L ++ Z := by
    cases L with
    | nil => rfl
    | cons x L =>
      have := isort_ins ltO L.length [x] (L ++ Z) (by rw [List.length_append]; omega)
      rw [List.take_left, List.drop_left] at this
      rw [List.length_cons, Nat.add_sub_cancel, List.cons_append]
      exact this
  rw [he] at hin
  refine afunO_of Tryz.func103 Tryz.ntmps103 rfl rfl rfl rfl rfl rfl ?_
  intro w U hU
  refine aS (aR ?_)
  (refine nx (aA (gN rfl) rfl rfl rfl rfl rfl) rfl ?_)
  show AWp _ _ _ _ _ _ _
  refine aS (aR ?_)
  (refine nx (aA (gN rfl) rfl rfl rfl rfl rfl) rfl ?_)
  show AWp _ _ _ _ _ _ _
  refine aB (awp_loop (fun m s => m = 0 ∧ s = [(0, .sl 400000 0 L.length 1), (1, .val (.i 0)), (2, .val (.i L.length)), (400000, .mrow 3 1 ((L ++ Z).map CV.i))]) (n := 0) (s' := [(0, .sl 400000 0 L.length 1), (1, .val (.i 0)), (2, .val (.i L.length)), (400000, .mrow 3 1 ((L ++ Z).map CV.i))]) (wk_sub ⟨rfl, rfl, rfl, rfl, trivial⟩) ⟨rfl, rfl⟩ ?_)
  rintro m s ⟨rfl, rfl⟩
  refine aB ?_
  refine aS (aR ?_)
  (refine nx (aM (gN rfl) rfl rfl rfl rfl rfl) rfl ?_)
  (refine nx (aM (gN rfl) rfl rfl rfl rfl rfl) rfl ?_)
  (refine nx (a_sub (gN rfl) rfl rfl rfl rfl rfl rfl (by first | omega | (simp only [List.length_map, List.length_append, List.length_cons, List.length_nil] <;> omega) | (simp <;> omega))) rfl ?_)
  (refine nx (aA (gN rfl) rfl rfl rfl rfl rfl) rfl ?_)
  show AWp _ _ _ _ _ _ _
  refine aS (aS (aR ?_))
  (refine nx (aM (gN rfl) rfl rfl rfl rfl rfl) rfl ?_)
  (refine nx (a_leq (gN rfl) rfl rfl rfl rfl rfl rfl) rfl ?_)
  show AWp _ _ _ _ _ _ _
  refine aC rfl (fun h => ?_) (fun h => ?_)
  · refine aS (aR ?_)
    (refine nx (aM (gN rfl) rfl rfl rfl rfl rfl) rfl ?_)
    (refine nx (aM (gN rfl) rfl rfl rfl rfl rfl) rfl ?_)
    (refine nx (aM (gN rfl) rfl rfl rfl rfl rfl) rfl ?_)
    (refine nx (a_callO (gN rfl) rfl rfl rfl rfl rfl (hin) (by repeat (first | exact trivial | refine ⟨rfl, ?_⟩)) (by first | rfl | kernel_rfl) (by first | rfl | kernel_rfl) (by first | rfl | kernel_rfl) (by first | rfl | kernel_rfl) (hnb_of (by first | rfl | kernel_rfl))) rfl ?_)
    show AWp _ _ _ _ _ _ _
    exact aT ⟨.inr rfl, _, Wk.refl _, rfl, rfl, trivial⟩
  · exfalso
    have := of_decide_eq_false h
    omega
-- 
theorem sortO_abs (L Z : List Int) (hn : L.length ≤ 12) (hz : Z.length ≤ 1000) :
    AFunO Tryz.prog 75 [(400000, .mrow 3 1 ((L ++ Z).map CV.i))] [.sl 400000 0 L.length 1] (.tup []) [(400000, .mrow 3 1 ((srtD ltO L ++ Z).map CV.i))] := by
  have hw : IntKind.u64.wrap ((L.length : Nat) : Int) = ((L.length : Nat) : Int) := by rw [IntKind.wrap_u64]; omega
  have hp := pdqO_abs L Z (len8 L.length) hn hz
  refine afunO_of Tryz.func75 Tryz.ntmps75 rfl rfl rfl rfl rfl rfl ?_
  intro w U hU
  refine aS (aR ?_)
  (refine nx (aM (gN rfl) rfl rfl rfl rfl rfl) rfl ?_)
  (refine nx (a_lenM (gN rfl) rfl rfl rfl rfl rfl rfl rfl) rfl ?_)
  (refine nx (aA (gN rfl) rfl rfl rfl rfl rfl) rfl ?_)
  show AWp _ _ _ _ _ _ _
  refine aR ?_
  (refine nx (aM (gN rfl) rfl rfl rfl rfl rfl) rfl ?_)
  (refine nx (aM (gN rfl) rfl rfl rfl rfl rfl) rfl ?_)
  (refine nx (aM (gN rfl) rfl rfl rfl rfl rfl) rfl ?_)
  (refine nx (a_conv (gN rfl) rfl rfl rfl rfl rfl rfl rfl (by first | rfl | (rw [IntKind.wrap_i64]; omega) | assumption)) rfl ?_)
  (refine nx (a_call (gN rfl) rfl rfl rfl rfl rfl (len_abs w L.length hn)) rfl ?_)
  (refine nx (a_callO (gN rfl) rfl rfl rfl rfl rfl (hp) (by repeat (first | exact trivial | refine ⟨rfl, ?_⟩)) (by first | rfl | kernel_rfl) (by first | rfl | kernel_rfl) (by first | rfl | kernel_rfl) (by first | rfl | kernel_rfl) (hnb_of (by first | rfl | kernel_rfl))) rfl ?_)
  exact ⟨.inl rfl, _, Wk.refl _, rfl, rfl, trivial⟩
end Go.Proofs.YtmeegdomncadpaaGreat
namespace Go.Proofs.YtmeegdomncadpaaGreat
open Go.RowKit
set_option linter.unusedVariables false
set_option linter.unusedSimpArgs false
def catO : List (Option (List Value)) → Option (List Value)
  | [] => some []
  | none :: _ => none
  | some x :: r => match catO r with | some y => some (x ++ y) | none => none
def plS (k : Nat) (v : Value) (l : List CV) (r : Option (List Value)) : Option (List Value) := match k, v, l with
  | 0, v, [] => match plainV v, isNil v with | true, false => some [v] | _, _ => none
  | 1, .nilFunc, [] => some [.slice none 0 0]
  | 2, .nilFunc, _ => r
  | _, _, _ => none
def plC : Nat → CV → Option (List Value)
  | 0, _ => none
  | n + 1, ⟨k, v, l⟩ => plS k v l (catO (l.map (plC n)))
theorem catO_spec {U : Nat → Nat → Prop} {w : World} {n : Nat} (ih : ∀ c vs, plC n c = some vs → Rep U w c vs ∧ vs.length = c.size) : ∀ {zs : List CV} {vs : List Value}, catO (zs.map (plC n)) = some vs → ∃ segs : List (List Value), segs.flatten = vs ∧ segs.map List.length = zs.map CV.size ∧ zs.length = segs.length ∧ ∀ (i : Nat) (c : CV), zs[i]? = some c → ∃ seg, segs[i]? = some seg ∧ Rep U w c seg
  | [], vs, h => by
    simp [catO] at h
    subst h
    exact ⟨[], rfl, rfl, rfl, fun i c hi => by simp at hi⟩
  | z :: zs, vs, h => by
    rw [List.map_cons] at h
    cases hz : plC n z with
    | none => rw [hz] at h; simp [catO] at h
    | some x =>
      rw [hz] at h
      unfold catO at h
      split at h
      · rename_i y hy
        cases h
        obtain ⟨segs, a1, a2, a3, a4⟩ := catO_spec ih hy
        obtain ⟨b1, b2⟩ := ih z x hz
        refine ⟨x :: segs, by simp [a1], by simp [a2, b2], by simp [a3], fun i c hi => ?_⟩
        cases i with
        | zero => simp at hi; subst hi; exact ⟨x, rfl, b1⟩
        | succ i => obtain ⟨seg, c1, c2⟩ := a4 i c (by simpa using hi); exact ⟨seg, by simpa using c1, c2⟩
      · cases h
theorem plC_spec {U : Nat → Nat → Prop} {w : World} : ∀ (n : Nat) (c : CV) (vs : List Value), plC n c = some vs → Rep U w c vs ∧ vs.length = c.size
  | 0, c, vs, h => by cases h
  | n + 1, ⟨k, v, l⟩, vs, h => by
    rw [plC] at h
    unfold plS at h
    split at h
    · split at h
      · rename_i h1 h2
        cases h
        exact ⟨(rep_cell h1).2 h2, rfl⟩
      · cases h
    · cases h
      exact ⟨rep_nil U w, rfl⟩
    · obtain ⟨segs, a1, a2, a3, a4⟩ := catO_spec (fun c vs h => plC_spec (U := U) (w := w) n c vs h) h
      refine ⟨?_, ?_⟩
      · show Rep U w (.row l) vs
        rw [rep_row, ← a1]
        exact sq_of_segs a3 a4
      · rw [CV.size_mk, if_pos rfl, ← a1, List.length_flatten, a2]
    · cases h

section
variable {P : Program} {w0 : World} {U0 : UX} {nt : Nat} {ops : Array Oper} {o : Oper} {S : Nat → Option AV} {gs : List Nat} {d : Nat}
theorem a_allocT (zs : List CV) (hg : Gd w0 U0 nt ops o gs S) (hd : o.dst = some d) (hn : Nat.blt d nt = true) (h5 : Nat.blt d 100000 = true) {ty : TypeId} {it : TypeInfo} {cs : Array Value} (ho : o.op = .alloc ty) (hi : P.info? ty = some it) (hz : it.zero = some (.agg cs)) (h0 : plC 6 (.row zs) = some cs.toList) : AOp P w0 U0 nt ops o gs [(d, [])] S [(d, .bp d 0 []), (100000 + d, .bx (.row zs))] := by
  intro s hs hN a w ⟨D, hv, h⟩ Q K hK
  rw [if_pos (hg s hs a w D hv h)]
  have hrep : Rep (Us w0 U0 D) w (.row zs) cs.toList := (plC_spec 6 _ _ h0).1
  have he : (execOp a.eval o).run P w = .ok (.value (.pointer (some ⟨w.heap.size, 0, none⟩))) (w.alloc (.cells cs ty)) := by
    simp [execOp, ho, Instr.alloc, zeroValue, typeInfo, hi, hz, run_newVar, Value.cells]
  unfold Oper.wp
  rw [he, Oper.upon_value, hd]
  have := h.newbox (d := d) (av := .bx (.row zs)) (hN (d, []) (by simp)).nr (bL hn) (bL h5) (.inl rfl) ty (fun _ => hrep) (fun _ hl => absurd hl not_live0)
  rw [Array.toArray_toList] at this
  exact hK _ _ ⟨_, _, this⟩
theorem a_buildT (zs : List CV) (hg : Gd w0 U0 nt ops o gs S) (hd : o.dst = some d) (hn : Nat.blt d nt = true) (h5 : Nat.blt d 100000 = true) {t : TypeId} {parts : Array (Nat × Operand)} {fs : Array Field} {it : TypeInfo} {cs : Array Value} {sz : List Nat} {r : List CV} (ho : o.op = .build t parts) (hu : P.underlying t = some (.struct fs)) (hi : P.info? t = some it) (hz : it.zero = some (.agg cs)) (hsz : szO P fs.toList 0 = some sz) (hzz : zs.map CV.size = sz) (h0 : catO (zs.map (plC 6)) = some cs.toList) (hr : setsO S parts.toList zs = some r) :
    AOp P w0 U0 nt ops o (gs ++ rds parts.toList) [] S [(d, .val (.row r))] :=
  aop_val hg hd hn h5 (fun k hk => List.mem_append_left _ hk) fun s hs a w D hv hm => by
    obtain ⟨segs, e1, e2, e4, e5⟩ := catO_spec (U := Us w0 U0 D) (w := w) (plC_spec 6) h0
    obtain ⟨g1, g2⟩ := setsO_spec (U := Us w0 U0 D) (w := w) (ρ := a.eval) (segs := segs) hr (fun x hx c n q p hev => ev_val hm (fun k hk => hs k (List.mem_append_right _ (mem_rds hx k hk))) hev) e4 e2 e5
    obtain ⟨pl, h1, h2⟩ := szO_spec hsz
    have hfill := fill_segs (place := fun i => pl.toArray[i]?) sz (fun i z hz => by rw [List.getElem?_toArray, h2 i z hz, Nat.zero_add]) (parts.toList.map fun x => (x.1, a.eval x.2)) segs cs e1.symm (by rw [e2, hzz]) (fun x hx => by rw [← hzz]; exact g1 x hx)
    refine ⟨.agg (setAll segs (parts.toList.map fun x => (x.1, a.eval x.2))).flatten.toArray, ?_, avrep_val (vrep_row.2 ⟨_, rfl, g2⟩)⟩
    have hb : P.built t (parts.map fun x => (x.1, a.eval x.2)).toList = some (setAll segs (parts.toList.map fun x => (x.1, a.eval x.2))).flatten.toArray := by
      unfold Program.built
      rw [hi, hu]
      simp only [hz, h1]
      rw [Array.toList_map]
      exact hfill
    have := run_build w t _ _ hb
    generalize a.eval = ρ at this ⊢
    simp [execOp, ho, this]
end
end Go.Proofs.YtmeegdomncadpaaGreat
namespace Go.Proofs.YtmeegdomncadpaaGreat
open Go.RowKit
set_option linter.unusedVariables false
set_option linter.unusedSimpArgs false
set_option maxRecDepth 100000
theorem isNaN8_any (x : Int) (w : World) :
    Calls Tryz.prog 133 #[.int .u8 x] w fun e w' => e = .returned (.bool false) ∧ w' = w := by
  go_enter Tryz.func133, Tryz.ntmps133
  go_wp2
  go_ret
  exact ⟨by simp, rfl⟩

set_option maxHeartbeats 400000 in
theorem cmpByte_any (x y : Int) (w : World) :
    Calls Tryz.prog 101 #[.int .u8 x, .int .u8 y] w fun e w' => e = .returned (.int .i64 (cmpZ x y)) ∧ Below w.heap.size w w' := by
  rcases Int.lt_trichotomy x y with h | h | h
  · have h2 : cmpZ x y = -1 := if_pos h
    rw [h2]
    clear h2
    go_enter Tryz.func101, Tryz.ntmps101
    go_wp2_with (go_at_call 133; refine (isNaN8_any _ _).mono ?_; rintro e w1 ⟨rfl, rfl⟩)
    go_ret
    exact ⟨rfl, bW _⟩
  · subst h
    have h2 : cmpZ x x = 0 := by simp [cmpZ]
    rw [h2]
    clear h2
    go_enter Tryz.func101, Tryz.ntmps101
    go_wp2_with (go_at_call 133; refine (isNaN8_any _ _).mono ?_; rintro e w1 ⟨rfl, rfl⟩)
    go_ret
    exact ⟨rfl, bW _⟩
  · have h2 : cmpZ x y = 1 := by unfold cmpZ; rw [if_neg (by omega), if_pos h]
    rw [h2]
    clear h2
    go_enter Tryz.func101, Tryz.ntmps101
    go_wp2_with (go_at_call 133; refine (isNaN8_any _ _).mono ?_; rintro e w1 ⟨rfl, rfl⟩)
    go_ret
    exact ⟨rfl, bW _⟩


theorem cmp8_abs (W : World) (x y : Int) : AFun Tryz.prog W 101 [by8 x, by8 y] (.val (.i (cmpZ x y))) := by
  refine ⟨ent_of Tryz.func101 rfl rfl, .inl rfl, rfl, ?_⟩
  rintro U w vs hW ⟨u1, us1, rfl, h1, u2, us2, rfl, h2, h3⟩
  have h3 : us2 = [] := h3
  subst h3
  obtain ⟨rfl, _⟩ := vrep_sc.1 h1
  obtain ⟨rfl, _⟩ := vrep_sc.1 h2
  refine (cmpByte_any x y w).mono ?_
  rintro e w' ⟨rfl, hb⟩
  exact ⟨_, rfl, vrep_sc.2 ⟨rfl, rfl⟩, hb⟩
-- 
theorem cCmpL_abs (W : World) (x y : Lt) (hx : x.rng) (hy : y.rng) : AFun Tryz.prog W 72 [x.cw, y.cw] (.val (.i (cmpLt x y))) := by
  refine afun_of (rs := [.i (cmpLt x y)]) Tryz.func72 Tryz.ntmps72 rfl rfl rfl rfl ?_
  intro w U hW
  refine aS (aR ?_)
  (refine nx (a_box (gN rfl) rfl rfl rfl rfl rfl) rfl ?_)
  (refine nx (a_box (gN rfl) rfl rfl rfl rfl rfl) rfl ?_)
  (refine nx (aA (gN rfl) rfl rfl rfl rfl rfl) rfl ?_)
  show AWp _ _ _ _ _ _ _
  refine aS (aS (aD (by kernel_rfl) (by kernel_rfl) ?_))
  (refine nx (aL (gN rfl) rfl rfl rfl rfl rfl rfl rfl rfl rfl rfl rfl rfl) rfl ?_)
  (refine nx (a_call (gN rfl) rfl rfl rfl rfl rfl (cSign_abs w x)) rfl ?_)
  (refine nx (aL (gN rfl) rfl rfl rfl rfl rfl rfl rfl rfl rfl rfl rfl rfl) rfl ?_)
  (refine nx (a_call (gN rfl) rfl rfl rfl rfl rfl (cSign_abs w y)) rfl ?_)
  (refine nx (a_call (gN rfl) rfl rfl rfl rfl rfl (cmp8_abs w _ _)) rfl ?_)
  (refine nx (aA (gN rfl) rfl rfl rfl rfl rfl) rfl ?_)
  refine ⟨by kernel_rfl, ?_⟩
  show AWp _ _ _ _ _ _ _
  refine aS (aR ?_)
  (refine nx (aM (gN rfl) rfl rfl rfl rfl rfl) rfl ?_)
  (refine nx (a_neq (gN rfl) rfl rfl rfl rfl rfl rfl) rfl ?_)
  show AWp _ _ _ _ _ _ _
  refine aC rfl (fun hc => ?_) (fun hc => ?_)
  · have e : cmpLt x y = cmpZ (sgZ x.neg) (sgZ y.neg) := by unfold cmpLt; rw [if_pos]; exact of_decide_eq_true hc
    rw [e]
    refine aS (aR ?_)
    (refine nx (aM (gN rfl) rfl rfl rfl rfl rfl) rfl ?_)
    (refine nx (aA (gN rfl) rfl rfl rfl rfl rfl) rfl ?_)
    show AWp _ _ _ _ _ _ _
    exact aT (And.intro (.inr rfl) rfl)
  · have e : cmpLt x y = cmpS x y := by unfold cmpLt; rw [if_neg]; exact of_decide_eq_false hc
    rw [e]
    refine aK ?_
    show AWp _ _ _ _ _ _ _
    refine aS (aR ?_)
    (refine nx (aL (gN rfl) rfl rfl rfl rfl rfl rfl rfl rfl rfl rfl rfl rfl) rfl ?_)
    (refine nx (aL (gN rfl) rfl rfl rfl rfl rfl rfl rfl rfl rfl rfl rfl rfl) rfl ?_)
    (refine nx (a_call (gN rfl) rfl rfl rfl rfl rfl (cCmpS_abs w x y hx hy)) rfl ?_)
    (refine nx (aA (gN rfl) rfl rfl rfl rfl rfl) rfl ?_)
    show AWp _ _ _ _ _ _ _
    exact aT (And.intro (.inr rfl) rfl)
-- 
theorem cSameL_abs (W : World) (x y : Lt) (hx : x.rng) (hy : y.rng) : AFun Tryz.prog W 58 [x.cw, y.cw] (.val (.b (smL x y))) := by
  refine afun_of (rs := [.b (smL x y)]) Tryz.func58 Tryz.ntmps58 rfl rfl rfl rfl ?_
  intro w U hW
  refine aS (aR ?_)
  (refine nx (a_box (gN rfl) rfl rfl rfl rfl rfl) rfl ?_)
  (refine nx (a_box (gN rfl) rfl rfl rfl rfl rfl) rfl ?_)
  (refine nx (aA (gN rfl) rfl rfl rfl rfl rfl) rfl ?_)
  show AWp _ _ _ _ _ _ _
  refine aS (aR ?_)
  (refine nx (aL (gN rfl) rfl rfl rfl rfl rfl rfl rfl rfl rfl rfl rfl rfl) rfl ?_)
  (refine nx (aL (gN rfl) rfl rfl rfl rfl rfl rfl rfl rfl rfl rfl rfl rfl) rfl ?_)
  (refine nx (a_call (gN rfl) rfl rfl rfl rfl rfl (cCmpL_abs w x y hx hy)) rfl ?_)
  (refine nx (a_eql (gN rfl) rfl rfl rfl rfl rfl rfl) rfl ?_)
  (refine nx (aA (gN rfl) rfl rfl rfl rfl rfl) rfl ?_)
  show AWp _ _ _ _ _ _ _
  exact aT (And.intro (.inr rfl) rfl)
def eqF (p : Lt → Lt → Bool) : List Lt → List Lt → Bool
  | [], [] => true
  | x :: c, y :: d => p x y && eqF p c d
  | _, _ => false
def okCl (c : List Lt) : Prop := c.length ≤ 12 ∧ ∀ l ∈ c, (l.a.rng ∧ l.a.ok ∧ l.a.size ≤ 1000) ∧ (l.b.rng ∧ l.b.ok ∧ l.b.size ≤ 1000)
theorem sidL_mem {c : List Lt} {s : Tm} : s ∈ sidL c ↔ ∃ l ∈ c, s = l.a ∨ s = l.b := by
  unfold sidL
  rw [List.mem_flatMap]
  constructor
  · rintro ⟨l, hl, h⟩
    exact ⟨l, hl, by simpa using h⟩
  · rintro ⟨l, hl, h⟩
    exact ⟨l, hl, by simpa using h⟩
theorem okCl.sid {c : List Lt} (h : okCl c) : (sidT c).rng ∧ (sidT c).ok ∧ (sidT c).size ≤ 24001 := by
  have hm : ∀ s ∈ sidL c, s.rng ∧ s.ok ∧ s.size ≤ 1000 := fun s hs => by
    obtain ⟨l, hl, e⟩ := sidL_mem.1 hs
    rcases e with rfl | rfl
    · exact (h.2 l hl).1
    · exact (h.2 l hl).2
  have hl := sidL_len c
  have h1 := h.1
  refine ⟨(Tm.rng_iff _).2 ⟨by show _ ≤ (0 : Int) ∧ (0 : Int) ≤ _; omega, fun s hs => (hm s hs).1⟩, (Tm.ok_iff _).2 ⟨by show (sidL c).length ≤ _; omega, fun s hs => (hm s hs).2.1⟩, ?_⟩
  rw [Tm.size_sym (show ¬ (sidT c).f < 0 by show ¬ (0 : Int) < 0; decide)]
  show 1 + ((sidL c).map Tm.size).sum ≤ _
  have : ∀ L : List Tm, (∀ s ∈ L, s.size ≤ 1000) → (L.map Tm.size).sum ≤ 1000 * L.length := fun L => by
    induction L with
    | nil => intro _; exact Nat.zero_le _
    | cons x L ih =>
      intro g
      rw [List.map_cons, List.sum_cons, List.length_cons]
      have a1 := g x (by simp)
      have a2 := ih fun s hs => g s (List.mem_cons_of_mem _ hs)
      omega
  have := this (sidL c) fun s hs => (hm s hs).2.2
  omega
theorem okCl.nv {c : List Lt} (h : okCl c) : (sidT c).nv.length ≤ 24001 := Nat.le_trans (nv_len _) h.sid.2.2
theorem okCl.rng {c : List Lt} (h : okCl c) : ∀ l ∈ c, l.rng := fun l hl => ⟨(h.2 l hl).1.1, (h.2 l hl).2.1⟩
theorem okCl.ok {c : List Lt} (h : okCl c) : ∀ l ∈ c, l.a.ok ∧ l.b.ok := fun l hl => ⟨(h.2 l hl).1.2.1, (h.2 l hl).2.2.1⟩
def Lt.z : Lt := ⟨false, ⟨0, []⟩, ⟨0, []⟩⟩
noncomputable abbrev ltZ : CV := .row [.b false, .row [.i 0, .lst []], .row [.i 0, .lst []]]
-- 
theorem cTbl_abs (W : World) (l k : Lt) (hk : k.rng) : AFun Tryz.prog W 67 [l.cw, k.cw] (.val (trnS l k).cw) := by
  refine afun_of (rs := [(trnS l k).cw]) Tryz.func67 Tryz.ntmps67 rfl rfl rfl rfl ?_
  intro w U hW
  refine aS (aR ?_)
  (refine nx (a_box (gN rfl) rfl rfl rfl rfl rfl) rfl ?_)
  (refine nx (a_box (gN rfl) rfl rfl rfl rfl rfl) rfl ?_)
  (refine nx (a_allocT [ltZ, ltZ] (gN rfl) rfl rfl rfl rfl rfl rfl rfl) rfl ?_)
  show AWp _ _ _ _ _ _ _
  refine aS (aS (aR ?_))
  (refine nx (aL (gN rfl) rfl rfl rfl rfl rfl rfl rfl rfl rfl rfl rfl rfl) rfl ?_)
  (refine nx (a_call (gN rfl) rfl rfl rfl rfl rfl (cIsTurned_abs w k hk)) rfl ?_)
  show AWp _ _ _ _ _ _ _
  refine aC rfl (fun hc => ?_) (fun hc => ?_)
  · have e : trnS l k = ⟨l, k⟩ := by unfold trnS; rw [if_pos (by have := of_decide_eq_true hc; omega)]
    rw [e]
    refine aS (aR ?_)
    (refine nx (aL (gN rfl) rfl rfl rfl rfl rfl rfl rfl rfl rfl rfl rfl rfl) rfl ?_)
    (refine nx (aL (gN rfl) rfl rfl rfl rfl rfl rfl rfl rfl rfl rfl rfl rfl) rfl ?_)
    (refine nx (a_buildT [ltZ, ltZ] (gN rfl) rfl rfl rfl rfl rfl rfl rfl rfl rfl rfl rfl) rfl ?_)
    (refine nx (aSt (gN rfl) rfl rfl rfl rfl rfl rfl rfl rfl rfl rfl) rfl ?_)
    show AWp _ _ _ _ _ _ _
    exact aT (And.intro (.inr rfl) rfl)
  · have e : trnS l k = ⟨othL l, othL k⟩ := by unfold trnS; rw [if_neg (by have := of_decide_eq_false hc; omega)]
    rw [e]
    refine aK ?_
    show AWp _ _ _ _ _ _ _
    refine aS (aD (by kernel_rfl) (by kernel_rfl) ?_)
    (refine nx (aL (gN rfl) rfl rfl rfl rfl rfl rfl rfl rfl rfl rfl rfl rfl) rfl ?_)
    (refine nx (a_call (gN rfl) rfl rfl rfl rfl rfl (cOther_abs w l)) rfl ?_)
    (refine nx (aL (gN rfl) rfl rfl rfl rfl rfl rfl rfl rfl rfl rfl rfl rfl) rfl ?_)
    (refine nx (a_call (gN rfl) rfl rfl rfl rfl rfl (cOther_abs w k)) rfl ?_)
    (refine nx (a_buildT [ltZ, ltZ] (gN rfl) rfl rfl rfl rfl rfl rfl rfl rfl rfl rfl rfl) rfl ?_)
    (refine nx (aSt (gN rfl) rfl rfl rfl rfl rfl rfl rfl rfl rfl rfl) rfl ?_)
    refine ⟨by kernel_rfl, ?_⟩
    show AWp _ _ _ _ _ _ _
    exact aT (And.intro (.inr rfl) rfl)
-- 
theorem cCmpK_abs (W : World) (x y : Sn) (hx : x.look.rng) (hy : y.look.rng) : AFun Tryz.prog W 69 [x.cw, y.cw] (.val (.i (cmpSn x y))) := by
  refine afun_of (rs := [.i (cmpSn x y)]) Tryz.func69 Tryz.ntmps69 rfl rfl rfl rfl ?_
  intro w U hW
  refine aS (aR ?_)
  (refine nx (a_box (gN rfl) rfl rfl rfl rfl rfl) rfl ?_)
  (refine nx (a_box (gN rfl) rfl rfl rfl rfl rfl) rfl ?_)
  (refine nx (aA (gN rfl) rfl rfl rfl rfl rfl) rfl ?_)
  show AWp _ _ _ _ _ _ _
  refine aS (aR ?_)
  (refine nx (aF (gN rfl) rfl rfl rfl rfl rfl rfl rfl rfl rfl) rfl ?_)
  (refine nx (aLb (gN rfl) rfl rfl rfl rfl rfl rfl rfl rfl rfl rfl rfl rfl) rfl ?_)
  (refine nx (aF (gN rfl) rfl rfl rfl rfl rfl rfl rfl rfl rfl) rfl ?_)
  (refine nx (aLb (gN rfl) rfl rfl rfl rfl rfl rfl rfl rfl rfl rfl rfl rfl) rfl ?_)
  (refine nx (a_call (gN rfl) rfl rfl rfl rfl rfl (cCmpL_abs w x.look y.look hx hy)) rfl ?_)
  (refine nx (aA (gN rfl) rfl rfl rfl rfl rfl) rfl ?_)
  show AWp _ _ _ _ _ _ _
  exact aT (And.intro (.inr rfl) rfl)
-- 
theorem cAll1_abs (W : World) (n : Int) : AFun Tryz.prog W 96 [.i n] (.val (.i 0)) := by
  refine afun_of (rs := [.i 0]) Tryz.func96 Tryz.ntmps96 rfl rfl rfl rfl ?_
  intro w U hW
  refine aS (aR ?_)
  (refine nx (aA (gN rfl) rfl rfl rfl rfl rfl) rfl ?_)
  show AWp _ _ _ _ _ _ _
  refine aS (aR ?_)
  (refine nx (aA (gN rfl) rfl rfl rfl rfl rfl) rfl ?_)
  show AWp _ _ _ _ _ _ _
  exact aT (And.intro (.inr rfl) rfl)
-- 
theorem cNew1_abs (W : World) (n : Int) : AFun Tryz.prog W 77 [.i n] (.val (.i n)) := by
  refine afun_of (rs := [.i n]) Tryz.func77 Tryz.ntmps77 rfl rfl rfl rfl ?_
  intro w U hW
  refine aS (aR ?_)
  (refine nx (aA (gN rfl) rfl rfl rfl rfl rfl) rfl ?_)
  show AWp _ _ _ _ _ _ _
  refine aS (aR ?_)
  (refine nx (aM (gN rfl) rfl rfl rfl rfl rfl) rfl ?_)
  (refine nx (aA (gN rfl) rfl rfl rfl rfl rfl) rfl ?_)
  show AWp _ _ _ _ _ _ _
  exact aT (And.intro (.inr rfl) rfl)
def bndV (c : List Lt) (g : Int → Int) : List Bd := zipB (sidT c).nv ((nums (sidT c).nv.length).map g)
theorem bndV_len (c : List Lt) (g : Int → Int) : (bndV c g).length = (sidT c).nv.length := by
  unfold bndV
  rw [zip_len (by rw [List.length_map, nums_len])]
-- 
set_option maxHeartbeats 1000000 in
theorem cBind_abs (W : World) (c : List Lt) (g : Int → Int) (fc : CV) (hn : okCl c) (hg : ∀ n, 0 ≤ n → n ≤ 24001 → 0 ≤ g n ∧ g n ≤ 24001) (hc : ∀ W n, AFunW Tryz.prog W fc [.i n] (.val (.i (g n)))) : AFun Tryz.prog W 76 [.lst (c.map Lt.cv), fc] (.val (.lst ((bndV c g).map Bd.cv))) := by
  obtain ⟨hr, hok, hsi⟩ := hn.sid
  have hV := fun w => vars_abs w hr (by omega)
  rw [nv_vars] at hV
  have hnl := hn.nv
  obtain ⟨z, hz⟩ : ∃ z, z = bndV c g := ⟨_, rfl⟩
  have hzl := bndV_len c g
  rw [← hz] at hzl ⊢
  have hzat : ∀ (k : Nat) (v : Int), (sidT c).nv[k]? = some v → z[k]? = some (Bd.mk v (varT (g k))) := fun k v hv => by
    have hk := (List.getElem?_eq_some_iff.1 hv).1
    rw [hz]
    unfold bndV
    exact zip_at hv (by rw [List.getElem?_map, nums_at hk]; rfl)
  obtain ⟨l, hl⟩ : ∃ l, l = (sidT c).nv := ⟨_, rfl⟩
  rw [← hl] at hzl hnl hzat hV
  have hsz := ints_size l
  have hzz := fun k => Bd.size_all (z.take k)
  refine afun_of (rs := [.lst (z.map Bd.cv)]) Tryz.func76 Tryz.ntmps76 rfl rfl rfl rfl ?_
  intro w U hW
  refine aS (aR ?_)
  (refine nx (aA (gN rfl) rfl rfl rfl rfl rfl) rfl ?_)
  show AWp _ _ _ _ _ _ _
  refine aS (aR ?_)
  (refine nx (aA (gN rfl) rfl rfl rfl rfl rfl) rfl ?_)
  show AWp _ _ _ _ _ _ _
  refine aS (aS (aR ?_))
  (refine nx (aM (gN rfl) rfl rfl rfl rfl rfl) rfl ?_)
  (refine nx (a_call (gN rfl) rfl rfl rfl rfl rfl (cSides_abs w c (by have := hn.1; omega))) rfl ?_)
  (refine nx (a_call (gN rfl) rfl rfl rfl rfl rfl (hV w)) rfl ?_)
  (refine nx (a_len (gN rfl) rfl rfl rfl rfl rfl rfl rfl) rfl ?_)
  (refine nx (aM (gN rfl) rfl rfl rfl rfl rfl) rfl ?_)
  show AWp _ _ _ _ _ _ _
  refine aB (awp_count l.length (fun k => [(1, .val fc), (5, .own (.lst ((z.take k).map Bd.cv)) 200026), (200026, .tok 85 3), (10, .val (.lst (l.map CV.i))), (11, .val (.i (l.map CV.i).length)), (12, .val (.i k))])
    ((wk_nil 5 200026 85 3 rfl rfl rfl rfl rfl rfl rfl).trans (wk_sub ⟨rfl, rfl, rfl, rfl, rfl, rfl, trivial⟩)) ?_)
  intro k hk
  refine aS (aR ?_)
  (refine nx (a_lss (gN rfl) rfl rfl rfl rfl rfl rfl) rfl ?_)
  show AWp _ _ _ _ _ _ _
  refine aS (aC rfl (fun hc => aK ?_) (fun hc => aE ?_))
  · have hkl : k < l.length := by
      simp only [List.length_map, decide_eq_true_eq] at hc
      omega
    clear hc
    obtain ⟨v, hv⟩ : ∃ v, l[k]? = some v := ⟨l[k], List.getElem?_eq_getElem hkl⟩
    have hv' := ints_at hv
    have hgk := hg k (by omega) (by omega)
    have hlt : ((z.take k).map Bd.cv).length ≤ 24001 := by rw [List.length_map, List.length_take]; omega
    show AWp _ _ _ _ _ _ _
    refine aS (aB (aS (aR ?_)))
    (refine nx (aM (gN rfl) rfl rfl rfl rfl rfl) rfl ?_)
    (refine nx (a_index (gN rfl) rfl rfl rfl rfl rfl rfl rfl rfl rfl (by assumption) rfl (by first | assumption | exact sZ rfl | exact Tm.size_all _ | exact Bd.size_all _ | exact ints_size _ | exact bys_size _ | exact Lt.size_all _)) rfl ?_)
    (refine nx (a_load_ad (gN rfl) rfl rfl rfl rfl rfl rfl rfl rfl rfl) rfl ?_)
    (refine nx (aA (gN rfl) rfl rfl rfl rfl rfl) rfl ?_)
    (refine nx (aA (gN rfl) rfl rfl rfl rfl rfl) rfl ?_)
    show AWp _ _ _ _ _ _ _
    refine aR ?_
    (refine nx (aM (gN rfl) rfl rfl rfl rfl rfl) rfl ?_)
    (refine nx (aM (gN rfl) rfl rfl rfl rfl rfl) rfl ?_)
    (refine nx (aM (gN rfl) rfl rfl rfl rfl rfl) rfl ?_)
    (refine nx (aM (gN rfl) rfl rfl rfl rfl rfl) rfl ?_)
    (refine nx (a_callw (gN rfl) rfl rfl rfl rfl rfl rfl (hc w k)) rfl ?_)
    (refine nx (a_sub (gN rfl) rfl rfl rfl rfl rfl rfl (by first | omega | (simp only [List.length_map, List.length_append, List.length_cons, List.length_nil] <;> omega) | (simp <;> omega))) rfl ?_)
    (refine nx (a_build (gN rfl) rfl rfl rfl rfl rfl rfl rfl rfl rfl rfl rfl) rfl ?_)
    (refine nx (a_build (gN rfl) rfl rfl rfl rfl rfl rfl rfl rfl rfl rfl rfl) rfl ?_)
    (refine nx (a_bslice (gN rfl) rfl rfl rfl rfl rfl rfl rfl rfl rfl rfl rfl rfl rfl) rfl ?_)
    (refine nx (a_app (gN rfl) rfl rfl rfl rfl rfl rfl rfl rfl rfl rfl rfl rfl rfl rfl rfl (by first | assumption | exact sZ rfl | exact Tm.size_all _ | exact Bd.size_all _ | exact ints_size _ | exact bys_size _ | exact Lt.size_all _) (by first | assumption | exact sZ rfl | exact Tm.size_all _ | exact Bd.size_all _ | exact ints_size _ | exact bys_size _ | exact Lt.size_all _) (by first | omega | (simp only [List.length_map, List.length_append, List.length_cons, List.length_nil] <;> omega) | (simp <;> omega))) rfl ?_)
    (refine nx (aA (gN rfl) rfl rfl rfl rfl rfl) rfl ?_)
    show AWp _ _ _ _ _ _ _
    refine aR ?_
    (refine nx (a_add (gN rfl) rfl rfl rfl rfl rfl rfl (by first | omega | (simp only [List.length_map, List.length_append, List.length_cons, List.length_nil] <;> omega) | (simp <;> omega))) rfl ?_)
    (refine nx (aM (gN rfl) rfl rfl rfl rfl rfl) rfl ?_)
    refine ⟨hkl, Wk.trans (wk_sub (s' := [(1, .val fc), (5, .own (.lst ((z.take (k + 1)).map Bd.cv)) 300026), (300026, .tok 85 3), (10, .val (.lst (l.map CV.i))), (11, .val (.i (l.map CV.i).length)), (12, .val (.i ((k + 1 : Nat) : Int)))]) ⟨rfl, ?_, rfl, rfl, rfl, rfl, trivial⟩) (wk_ren 300026 200026 rfl rfl rfl rfl)⟩
    rw [List.take_add_one, hzat k v hv, List.map_append]
    rfl
  · have hkl : k = z.length := by
      simp only [List.length_map, decide_eq_false_iff_not] at hc
      omega
    subst hkl
    rw [List.take_length]
    show AWp _ _ _ _ _ _ _
    refine aS (aR ?_)
    (refine nx (aM (gN rfl) rfl rfl rfl rfl rfl) rfl ?_)
    (refine nx (aA (gN rfl) rfl rfl rfl rfl rfl) rfl ?_)
    show AWp _ _ _ _ _ _ _
    exact aT (And.intro (.inr rfl) rfl)
-- 
theorem cAll_abs (W : World) (c : List Lt) (hn : okCl c) : AFun Tryz.prog W 66 [.lst (c.map Lt.cv)] (.val (.lst ((bndV c (fun _ => 0)).map Bd.cv))) := by
  refine afun_of (rs := [.lst ((bndV c (fun _ => 0)).map Bd.cv)]) Tryz.func66 Tryz.ntmps66 rfl rfl rfl rfl ?_
  intro w U hW
  refine aS (aR ?_)
  (refine nx (aA (gN rfl) rfl rfl rfl rfl rfl) rfl ?_)
  show AWp _ _ _ _ _ _ _
  refine aS (aR ?_)
  (refine nx (aM (gN rfl) rfl rfl rfl rfl rfl) rfl ?_)
  (refine nx (a_call (gN rfl) rfl rfl rfl rfl rfl (cBind_abs w c (fun _ => 0) (.sc (.func (.func 96) #[] #[])) hn (fun n _ _ => by omega) (fun W n => .inr ⟨_, rfl, cAll1_abs W n⟩))) rfl ?_)
  (refine nx (aA (gN rfl) rfl rfl rfl rfl rfl) rfl ?_)
  show AWp _ _ _ _ _ _ _
  exact aT (And.intro (.inr rfl) rfl)
-- 
theorem cNew_abs (W : World) (c : List Lt) (hn : okCl c) : AFun Tryz.prog W 40 [.lst (c.map Lt.cv)] (.val (.lst ((bndV c id).map Bd.cv))) := by
  refine afun_of (rs := [.lst ((bndV c id).map Bd.cv)]) Tryz.func40 Tryz.ntmps40 rfl rfl rfl rfl ?_
  intro w U hW
  refine aS (aR ?_)
  (refine nx (aA (gN rfl) rfl rfl rfl rfl rfl) rfl ?_)
  show AWp _ _ _ _ _ _ _
  refine aS (aR ?_)
  (refine nx (aM (gN rfl) rfl rfl rfl rfl rfl) rfl ?_)
  (refine nx (a_call (gN rfl) rfl rfl rfl rfl rfl (cBind_abs w c id (.sc (.func (.func 77) #[] #[])) hn (fun n h1 h2 => ⟨h1, h2⟩) (fun W n => .inr ⟨_, rfl, cNew1_abs W n⟩))) rfl ?_)
  (refine nx (aA (gN rfl) rfl rfl rfl rfl rfl) rfl ?_)
  show AWp _ _ _ _ _ _ _
  exact aT (And.intro (.inr rfl) rfl)
theorem bndV_img {c : List Lt} {g : Int → Int} {v : Int} (hv : v ∈ (sidT c).nv) : imgB (bndV c g) v = varT (g (ixOf (sidT c).nv v : Nat)) := by
  unfold bndV
  rw [img_zip (by rw [List.length_map, nums_len]) hv]
  have hlt := ixOf_lt hv
  rw [getD_of (v := g (ixOf (sidT c).nv v : Nat)) (by rw [List.getElem?_map, nums_at hlt]; rfl)]
theorem bndV_var (c : List Lt) (g : Int → Int) (hg : ∀ n, 0 ≤ n → n ≤ 24001 → 0 ≤ g n ∧ g n ≤ 24001) (hn : okCl c) : ∀ b ∈ bndV c g, ∃ u, b.t = varT u ∧ 0 ≤ u ∧ u ≤ 24001 := fun b hb => by
  unfold bndV at hb
  obtain ⟨u, hu, e⟩ := zip_mem hb
  obtain ⟨n, hn2, rfl⟩ := List.mem_map.1 hu
  have := nums_mem.1 hn2
  have hl := hn.nv
  exact ⟨_, e, hg n (by omega) (by omega)⟩
theorem bndV_ok (c : List Lt) (g : Int → Int) (hg : ∀ n, 0 ≤ n → n ≤ 24001 → 0 ≤ g n ∧ g n ≤ 24001) (hn : okCl c) : bdsOk (bndV c g) := fun b hb => by
  obtain ⟨u, e, h1, h2⟩ := bndV_var c g hg hn b hb
  rw [e]
  exact ⟨varT_rng h1 (by omega), by rw [varT_size]; omega⟩
theorem img_var {L : List Bd} (h : ∀ b ∈ L, ∃ u, b.t = varT u) (v : Int) : ∃ u, imgB L v = varT u := by
  unfold imgB
  cases hf : findB L v with
  | none => exact ⟨v, rfl⟩
  | some t =>
    have : ∃ b ∈ L, b.t = t := by
      clear h
      induction L with
      | nil => cases hf
      | cons b L ih =>
        unfold findB at hf
        split at hf
        · exact ⟨b, by simp, by injection hf⟩
        · obtain ⟨x, hx, e⟩ := ih hf
          exact ⟨x, List.mem_cons_of_mem _ hx, e⟩
    obtain ⟨b, hb, rfl⟩ := this
    obtain ⟨u, e⟩ := h b hb
    exact ⟨u, e⟩
theorem rep_size1 {img : Int → Tm} (h : ∀ v, ∃ u, img v = varT u) (t : Tm) : (repT img t).size = t.size := by
  have := repT_size img t
  have e : (t.vs.map fun v => (((img v).size : Nat) : Int) - 1).sum = 0 := by
    generalize t.vs = l
    induction l with
    | nil => rfl
    | cons v l ih =>
      obtain ⟨u, hu⟩ := h v
      rw [List.map_cons, List.sum_cons, ih, hu, varT_size]; rfl
  rw [e] at this
  omega
theorem okCl.rep {c : List Lt} (hn : okCl c) {L : List Bd} (hL : ∀ b ∈ L, ∃ u, b.t = varT u ∧ 0 ≤ u ∧ u ≤ 24001) : okCl (c.map (Lt.rep (imgB L))) := by
  refine ⟨by rw [List.length_map]; exact hn.1, fun l hl => ?_⟩
  obtain ⟨x, hx, rfl⟩ := List.mem_map.1 hl
  have hv : ∀ v, ∃ u, imgB L v = varT u := img_var fun b hb => by obtain ⟨u, e, _⟩ := hL b hb; exact ⟨u, e⟩
  have hb : bdsOk L := fun b hb => by
    obtain ⟨u, e, h1, h2⟩ := hL b hb
    rw [e]
    exact ⟨varT_rng h1 (by omega), by rw [varT_size]; omega⟩
  have key : ∀ t : Tm, (t.rng ∧ t.ok ∧ t.size ≤ 1000) → ((repT (imgB L) t).rng ∧ (repT (imgB L) t).ok ∧ (repT (imgB L) t).size ≤ 1000) := fun t ht => by
    refine ⟨repT_rng ht.1 fun v h1 h2 => (imgB_ok hb h1 h2).1, repT_ok ht.2.1 fun v => ?_, by rw [rep_size1 hv]; exact ht.2.2⟩
    obtain ⟨u, hu⟩ := hv v
    rw [hu]
    exact varT_ok u
  exact ⟨key _ (hn.2 x hx).1, key _ (hn.2 x hx).2⟩
theorem okCl.inD {c : List Lt} (hn : okCl c) : okCl (inD c) := by
  refine ⟨by rw [inD_len]; exact hn.1, fun l hl => ?_⟩
  obtain ⟨x, hx, rfl⟩ := inD_mem.1 hl
  rcases rtL_or x with e | e <;> rw [e]
  · exact hn.2 x hx
  · exact ⟨(hn.2 x hx).2, (hn.2 x hx).1⟩
theorem okCl.ded {c : List Lt} (hn : okCl c) {q : Lt → Lt → Bool} : okCl (dedD q c) := ⟨Nat.le_trans (dedD_len c) hn.1, fun l hl => hn.2 l (dedD_mem hl)⟩
theorem looks_eq (c : List Lt) : c.map (Lt.rep (imgB (bndV c (fun _ => 0)))) = c.map lkL := by
  refine List.map_congr_left fun l hl => ?_
  unfold lkL Lt.rep
  rw [rep_congr (g := fun _ => varT 0) fun v hv => bndV_img (mem_sid_vs hl (.inl hv)), rep_congr (g := fun _ => varT 0) fun v hv => bndV_img (mem_sid_vs hl (.inr hv))]
theorem lk_rng {c : List Lt} (hn : okCl c) : ∀ l ∈ c, (lkL l).rng := fun l hl => by
  have h := (hn.rep (L := bndV c (fun _ => 0)) (bndV_var c _ (fun _ _ _ => by omega) hn)).rng
  rw [looks_eq] at h
  exact h _ (List.mem_map_of_mem hl)
theorem trn_rng {l k : Lt} (h : k.rng) : (trnS l k).look.rng := by
  unfold trnS
  split
  · exact h
  · exact ⟨h.2, h.1⟩
theorem numB_eq (c : List Lt) : bndV c id = numB c := by
  unfold bndV numB
  rw [List.map_id]
def snL (c : List Lt) : List Sn := c.map fun l => trnS l (lkL l)
-- 
set_option maxHeartbeats 4000000 in
theorem cIn_abs (W : World) (c : List Lt) (hn : okCl c) : AFun Tryz.prog W 38 [.lst (c.map Lt.cv)] (.val (.lst ((inL c).map Lt.cv))) := by
  obtain ⟨hr, hok, hsi⟩ := hn.sid
  have hlen := hn.1
  have hap := fun w => cApply_abs w (bndV c (fun _ => 0)) c (by omega) (by rw [bndV_len]; have := hn.nv; omega) (bndV_ok c _ (fun _ _ _ => by omega) hn) hr hok
  rw [looks_eq] at hap
  have hsz := Lt.size_all c
  have hszk := Lt.size_all (c.map lkL)
  obtain ⟨S, hS⟩ : ∃ S, S = snL c := ⟨_, rfl⟩
  have hSl : S.length = c.length := by rw [hS]; unfold snL; rw [List.length_map]
  have hSr : ∀ x ∈ S, x.look.rng := fun x hx => by
    rw [hS] at hx
    obtain ⟨l, hl, rfl⟩ := List.mem_map.1 hx
    exact trn_rng (lk_rng hn l hl)
  have hso := sortStableSn_abs cmpSn (.sc (.func (.func 69) #[] #[])) S (by omega) (fun W x y hx hy => .inr ⟨_, rfl, cCmpK_abs W x y (hSr x hx) (hSr y hy)⟩)
  rw [isort_srt0] at hso
  obtain ⟨T, hT⟩ : ∃ T, T = srtD (ltG cmpSn) S := ⟨_, rfl⟩
  have hTl : T.length = c.length := by rw [hT, (srtD_perm _ _).length_eq, hSl]
  have hin : inL c = T.map Sn.lit := by rw [hT, hS]; rfl
  rw [← hT] at hso
  rw [hin]
  have hszT := Sn.size_all T
  refine afun_of (rs := [.lst ((T.map Sn.lit).map Lt.cv)]) Tryz.func38 Tryz.ntmps38 rfl rfl rfl rfl ?_
  intro w U hW
  have hUf : U.f 400000 = none := hW.1 400000
  refine aS (aR ?_)
  (refine nx (aA (gN rfl) rfl rfl rfl rfl rfl) rfl ?_)
  show AWp _ _ _ _ _ _ _
  refine aS (aR ?_)
  (refine nx (aM (gN rfl) rfl rfl rfl rfl rfl) rfl ?_)
  (refine nx (a_call (gN rfl) rfl rfl rfl rfl rfl (cAll_abs w c hn)) rfl ?_)
  (refine nx (aM (gN rfl) rfl rfl rfl rfl rfl) rfl ?_)
  (refine nx (a_call (gN rfl) rfl rfl rfl rfl rfl (hap w)) rfl ?_)
  (refine nx (aA (gN rfl) rfl rfl rfl rfl rfl) rfl ?_)
  show AWp _ _ _ _ _ _ _
  refine aS (aR ?_)
  (refine nx (aA (gN rfl) rfl rfl rfl rfl rfl) rfl ?_)
  show AWp _ _ _ _ _ _ _
  refine aS (aS (aR ?_))
  (refine nx (aM (gN rfl) rfl rfl rfl rfl rfl) rfl ?_)
  (refine nx (a_len (gN rfl) rfl rfl rfl rfl rfl rfl rfl) rfl ?_)
  (refine nx (aM (gN rfl) rfl rfl rfl rfl rfl) rfl ?_)
  show AWp _ _ _ _ _ _ _
  refine aB (awp_count c.length (fun k => [(3, .val (.lst ((c.map lkL).map Lt.cv))), (4, .sl 250007 0 (S.take k).length 10), (14, .val (.lst (c.map Lt.cv))), (15, .val (.i (c.map Lt.cv).length)), (16, .val (.i k)), (250007, .mrow 103 10 ((S.take k).map Sn.cv))])
    ((wk_nilM 4 250007 103 10 rfl rfl rfl rfl rfl).trans (wk_sub ⟨rfl, rfl, rfl, rfl, rfl, rfl, trivial⟩)) ?_)
  intro k hk
  refine aS (aR ?_)
  (refine nx (a_lss (gN rfl) rfl rfl rfl rfl rfl rfl) rfl ?_)
  show AWp _ _ _ _ _ _ _
  refine aS (aC rfl (fun hlt => ?_) (fun hlt => ?_))
  · have hkl : k < c.length := by simpa using hlt
    obtain ⟨x, hx⟩ : ∃ x, c[k]? = some x := ⟨c[k], List.getElem?_eq_getElem hkl⟩
    have hx' := Lt.map_at hx
    have hxm := List.mem_of_getElem? hx
    have hk' : ((c.map lkL).map Lt.cv)[k]? = some (lkL x).cw := Lt.map_at (by rw [List.getElem?_map, hx]; rfl)
    have hSk : S[k]? = some (trnS x (lkL x)) := by rw [hS]; unfold snL; rw [List.getElem?_map, hx]; rfl
    have hsz2 : ∀ z ∈ (S.take k).map Sn.cv, z.size = 10 := Sn.size_all _
    have hl3 : ((S.take k).map Sn.cv).length = (S.take k).length := List.length_map ..
    have hl4 : (S.take k).length ≤ 12 := by rw [List.length_take]; omega
    refine aK ?_
    show AWp _ _ _ _ _ _ _
    refine aS (aB (aS (aR ?_)))
    (refine nx (aM (gN rfl) rfl rfl rfl rfl rfl) rfl ?_)
    (refine nx (a_index (j := k) (gN rfl) rfl rfl rfl rfl rfl rfl rfl rfl rfl (hx') rfl (hsz)) rfl ?_)
    (refine nx (a_load_ad (gN rfl) rfl rfl rfl rfl rfl rfl rfl rfl rfl) rfl ?_)
    (refine nx (a_alloc (gN rfl) rfl rfl rfl rfl rfl rfl rfl rfl rfl rfl) rfl ?_)
    (refine nx (aA (gN rfl) rfl rfl rfl rfl rfl) rfl ?_)
    (refine nx (aSt (gN rfl) rfl rfl rfl rfl rfl rfl rfl rfl rfl rfl) rfl ?_)
    show AWp _ _ _ _ _ _ _
    refine aD (by kernel_rfl) (by kernel_rfl) ?_
    (refine nx (aM (gN rfl) rfl rfl rfl rfl rfl) rfl ?_)
    (refine nx (aL (gN rfl) rfl rfl rfl rfl rfl rfl rfl rfl rfl rfl rfl rfl) rfl ?_)
    (refine nx (aM (gN rfl) rfl rfl rfl rfl rfl) rfl ?_)
    (refine nx (aM (gN rfl) rfl rfl rfl rfl rfl) rfl ?_)
    (refine nx (a_index (j := k) (gN rfl) rfl rfl rfl rfl rfl rfl rfl rfl rfl (hk') rfl (hszk)) rfl ?_)
    (refine nx (a_load_ad (gN rfl) rfl rfl rfl rfl rfl rfl rfl rfl rfl) rfl ?_)
    (refine nx (a_call (gN rfl) rfl rfl rfl rfl rfl (cTbl_abs w x (lkL x) (lk_rng hn x hxm))) rfl ?_)
    (refine nx (a_bslice (gN rfl) rfl rfl rfl rfl rfl rfl rfl rfl rfl rfl rfl rfl rfl) rfl ?_)
    (refine nx (a_appM 250029 (gN rfl) rfl rfl rfl rfl rfl rfl rfl rfl rfl rfl rfl rfl rfl (by first | rfl | omega | (simp only [List.length_set, List.length_map, List.length_append, List.length_cons, List.length_nil] <;> omega) | (simp <;> omega)) (by first | assumption | exact sZ rfl | exact Tm.size_all _ | exact Bd.size_all _ | exact ints_size _ | exact bys_size _ | exact Lt.size_all _) (by first | omega | (simp only [List.length_map, List.length_append, List.length_cons, List.length_nil] <;> omega) | (simp <;> omega))) rfl ?_)
    (refine nx (aA (gN rfl) rfl rfl rfl rfl rfl) rfl ?_)
    refine ⟨by kernel_rfl, ?_⟩
    show AWp _ _ _ _ _ _ _
    refine aR ?_
    (refine nx (a_add (gN rfl) rfl rfl rfl rfl rfl rfl (by first | omega | (simp only [List.length_map, List.length_append, List.length_cons, List.length_nil] <;> omega) | (simp <;> omega))) rfl ?_)
    (refine nx (aM (gN rfl) rfl rfl rfl rfl rfl) rfl ?_)
    refine ⟨hkl, (wk_sub (s' := [(3, .val (.lst ((c.map lkL).map Lt.cv))), (4, .sl 250029 0 (S.take (k + 1)).length 10), (14, .val (.lst (c.map Lt.cv))), (15, .val (.i (c.map Lt.cv).length)), (16, .val (.i ((k + 1 : Nat) : Int))), (250029, .mrow 103 10 ((S.take (k + 1)).map Sn.cv))]) ⟨rfl, ?_, rfl, rfl, rfl, ?_, trivial⟩).trans (wk_ren 250029 250007 rfl rfl (by kernel_rfl) (by kernel_rfl))⟩
    · rw [List.take_add_one, hSk, Option.toList_some, List.length_append, ← hl3]; rfl
    · rw [List.take_add_one, hSk, Option.toList_some, List.map_append]; rfl
  · have hkl : k = S.length := by
      have : ¬ k < c.length := by simpa using hlt
      omega
    subst hkl
    rw [List.take_length]
    refine aE ?_
    show AWp _ _ _ _ _ _ _
    refine AWp.wk ((wk_sub (s' := [(4, .sl 250007 0 S.length 10), (250007, .mrow 103 10 (S.map Sn.cv))]) ⟨rfl, rfl, trivial⟩).trans (wk_renF 250007 400000 rfl rfl hUf rfl rfl rfl)) ?_
    refine aS (aR ?_)
    (refine nx (aM (gN rfl) rfl rfl rfl rfl rfl) rfl ?_)
    (refine nx (a_callO (gN rfl) rfl rfl rfl rfl rfl (hso) (by repeat (first | exact trivial | refine ⟨rfl, ?_⟩)) (by first | rfl | kernel_rfl) (by first | rfl | kernel_rfl) (by first | rfl | kernel_rfl) (by first | rfl | kernel_rfl) (hnb_of (by first | rfl | kernel_rfl))) rfl ?_)
    show AWp _ _ _ _ _ _ _
    refine AWp.wk (wk_sub (s' := [(4, .sl 400000 0 T.length 10), (400000, .mrow 103 10 (T.map Sn.cv))]) ⟨by rw [hTl, ← hSl]; rfl, rfl, trivial⟩) ?_
    refine aS (aR ?_)
    (refine nx (aA (gN rfl) rfl rfl rfl rfl rfl) rfl ?_)
    show AWp _ _ _ _ _ _ _
    refine aS (aS (aR ?_))
    (refine nx (aM (gN rfl) rfl rfl rfl rfl rfl) rfl ?_)
    (refine nx (a_lenM (gN rfl) rfl rfl rfl rfl rfl rfl rfl) rfl ?_)
    (refine nx (aM (gN rfl) rfl rfl rfl rfl rfl) rfl ?_)
    show AWp _ _ _ _ _ _ _
    refine aB (awp_count T.length (fun k => [(7, .own (.lst (((T.take k).map Sn.lit).map Lt.cv)) 200043), (200043, .tok 63 5), (33, .sl 400000 0 T.length 10), (34, .val (.i T.length)), (35, .val (.i k)), (400000, .mrow 103 10 (T.map Sn.cv))])
      ((wk_nil 7 200043 63 5 rfl rfl rfl rfl rfl rfl rfl).trans (wk_sub ⟨rfl, rfl, rfl, rfl, rfl, rfl, trivial⟩)) ?_)
    intro k hk
    refine aS (aR ?_)
    (refine nx (a_lss (gN rfl) rfl rfl rfl rfl rfl rfl) rfl ?_)
    show AWp _ _ _ _ _ _ _
    refine aS (aC rfl (fun hlt => ?_) (fun hlt => ?_))
    · have hkl : k < T.length := by simpa using hlt
      obtain ⟨x, hx⟩ : ∃ x, T[k]? = some x := ⟨T[k], List.getElem?_eq_getElem hkl⟩
      have hx' := Sn.map_at hx
      have hsz2 : ∀ z ∈ ((T.take k).map Sn.lit).map Lt.cv, z.size = 5 := Lt.size_all _
      have hl3 : (((T.take k).map Sn.lit).map Lt.cv).length ≤ 12 := by rw [List.length_map, List.length_map, List.length_take]; omega
      refine aK ?_
      show AWp _ _ _ _ _ _ _
      refine aS (aB (aS (aR ?_)))
      (refine nx (aIm (k := k) (gN rfl) rfl rfl rfl rfl rfl rfl rfl rfl rfl (by first | rfl | omega | (simp only [List.length_set, List.length_map, List.length_append, List.length_cons, List.length_nil] <;> omega) | (simp <;> omega))) rfl ?_)
      (refine nx (a_loadM (gN rfl) rfl rfl rfl rfl rfl rfl rfl rfl (hx') rfl (by first | rfl | omega | (simp only [List.length_set, List.length_map, List.length_append, List.length_cons, List.length_nil] <;> omega) | (simp <;> omega)) rfl rfl) rfl ?_)
      (refine nx (a_allocT [ltZ, ltZ] (gN rfl) rfl rfl rfl rfl rfl rfl rfl) rfl ?_)
      (refine nx (aSt (gN rfl) rfl rfl rfl rfl rfl rfl rfl rfl rfl rfl) rfl ?_)
      show AWp _ _ _ _ _ _ _
      refine aR ?_
      (refine nx (aM (gN rfl) rfl rfl rfl rfl rfl) rfl ?_)
      (refine nx (aF (gN rfl) rfl rfl rfl rfl rfl rfl rfl rfl rfl) rfl ?_)
      (refine nx (aLb (gN rfl) rfl rfl rfl rfl rfl rfl rfl rfl rfl rfl rfl rfl) rfl ?_)
      (refine nx (a_bslice (gN rfl) rfl rfl rfl rfl rfl rfl rfl rfl rfl rfl rfl rfl rfl) rfl ?_)
      (refine nx (a_app (gN rfl) rfl rfl rfl rfl rfl rfl rfl rfl rfl rfl rfl rfl rfl rfl rfl (by first | assumption | exact sZ rfl | exact Tm.size_all _ | exact Bd.size_all _ | exact ints_size _ | exact bys_size _ | exact Lt.size_all _) (by first | assumption | exact sZ rfl | exact Tm.size_all _ | exact Bd.size_all _ | exact ints_size _ | exact bys_size _ | exact Lt.size_all _) (by first | omega | (simp only [List.length_map, List.length_append, List.length_cons, List.length_nil] <;> omega) | (simp <;> omega))) rfl ?_)
      (refine nx (aA (gN rfl) rfl rfl rfl rfl rfl) rfl ?_)
      show AWp _ _ _ _ _ _ _
      refine aR ?_
      (refine nx (a_add (gN rfl) rfl rfl rfl rfl rfl rfl (by first | omega | (simp only [List.length_map, List.length_append, List.length_cons, List.length_nil] <;> omega) | (simp <;> omega))) rfl ?_)
      (refine nx (aM (gN rfl) rfl rfl rfl rfl rfl) rfl ?_)
      refine ⟨hkl, Wk.trans (wk_sub (s' := [(7, .own (.lst (((T.take (k + 1)).map Sn.lit).map Lt.cv)) 300043), (300043, .tok 63 5), (33, .sl 400000 0 T.length 10), (34, .val (.i T.length)), (35, .val (.i ((k + 1 : Nat) : Int))), (400000, .mrow 103 10 (T.map Sn.cv))]) ⟨?_, rfl, rfl, rfl, rfl, rfl, trivial⟩) (wk_ren 300043 200043 rfl rfl rfl rfl)⟩
      rw [List.take_add_one, hx, Option.toList_some, List.map_append, List.map_append]; rfl
    · have hkl : k = T.length := by
        have : ¬ k < T.length := by simpa using hlt
        omega
      subst hkl
      rw [List.take_length]
      refine aE ?_
      show AWp _ _ _ _ _ _ _
      refine aS (aR ?_)
      (refine nx (aM (gN rfl) rfl rfl rfl rfl rfl) rfl ?_)
      (refine nx (aA (gN rfl) rfl rfl rfl rfl rfl) rfl ?_)
      show AWp _ _ _ _ _ _ _
      exact aT (And.intro (.inr rfl) rfl)
-- 
theorem cWd1_abs (W : World) (c : List Lt) (hn : okCl c) (m n : Nat) (hm : m < c.length) (hk : n < c.length) : AFun Tryz.prog W 71 [.i m, .i n, .ptr (.lst (c.map Lt.cv))] (.val (.i (cmpLt (litAt c m) (litAt c n)))) := by
  obtain ⟨x, hx⟩ : ∃ x, c[m]? = some x := ⟨c[m], List.getElem?_eq_getElem hm⟩
  obtain ⟨y, hy⟩ : ∃ x, c[n]? = some x := ⟨c[n], List.getElem?_eq_getElem hk⟩
  have hx' := Lt.map_at hx
  have hy' := Lt.map_at hy
  have hsz := Lt.size_all c
  rw [litAt_at hx, litAt_at hy]
  refine afun_of (rs := [.i (cmpLt x y)]) Tryz.func71 Tryz.ntmps71 rfl rfl rfl rfl ?_
  intro w U hW
  refine aS (aR ?_)
  (refine nx (aA (gN rfl) rfl rfl rfl rfl rfl) rfl ?_)
  show AWp _ _ _ _ _ _ _
  refine aS (aD (by kernel_rfl) (by kernel_rfl) ?_)
  (refine nx (a_load_ptr (gN rfl) rfl rfl rfl rfl rfl rfl rfl rfl rfl) rfl ?_)
  (refine nx (aM (gN rfl) rfl rfl rfl rfl rfl) rfl ?_)
  (refine nx (a_index (j := m) (gN rfl) rfl rfl rfl rfl rfl rfl rfl rfl rfl (hx') rfl (hsz)) rfl ?_)
  (refine nx (a_load_ad (gN rfl) rfl rfl rfl rfl rfl rfl rfl rfl rfl) rfl ?_)
  (refine nx (a_load_ptr (gN rfl) rfl rfl rfl rfl rfl rfl rfl rfl rfl) rfl ?_)
  (refine nx (aM (gN rfl) rfl rfl rfl rfl rfl) rfl ?_)
  (refine nx (a_index (j := n) (gN rfl) rfl rfl rfl rfl rfl rfl rfl rfl rfl (hy') rfl (hsz)) rfl ?_)
  (refine nx (a_load_ad (gN rfl) rfl rfl rfl rfl rfl rfl rfl rfl rfl) rfl ?_)
  (refine nx (a_call (gN rfl) rfl rfl rfl rfl rfl (cCmpL_abs w x y (hn.rng x (List.mem_of_getElem? hx)) (hn.rng y (List.mem_of_getElem? hy)))) rfl ?_)
  (refine nx (aA (gN rfl) rfl rfl rfl rfl rfl) rfl ?_)
  refine ⟨by kernel_rfl, ?_⟩
  show AWp _ _ _ _ _ _ _
  exact aT (And.intro (.inr rfl) rfl)
-- 
theorem cWd2_abs (W : World) (c : List Lt) (hn : okCl c) (m n : Nat) (hm : m < c.length) (hk : n < c.length) : AFun Tryz.prog W 74 [.i m, .i n, .ptr (.lst (c.map Lt.cv))] (.val (.b (sameI c m n))) := by
  obtain ⟨x, hx⟩ : ∃ x, c[m]? = some x := ⟨c[m], List.getElem?_eq_getElem hm⟩
  obtain ⟨y, hy⟩ : ∃ x, c[n]? = some x := ⟨c[n], List.getElem?_eq_getElem hk⟩
  have hx' := Lt.map_at hx
  have hy' := Lt.map_at hy
  have hsz := Lt.size_all c
  have e : sameI c m n = smL x y := by unfold sameI smL; rw [litAt_at hx, litAt_at hy]
  rw [e]
  refine afun_of (rs := [.b (smL x y)]) Tryz.func74 Tryz.ntmps74 rfl rfl rfl rfl ?_
  intro w U hW
  refine aS (aR ?_)
  (refine nx (aA (gN rfl) rfl rfl rfl rfl rfl) rfl ?_)
  show AWp _ _ _ _ _ _ _
  refine aS (aD (by kernel_rfl) (by kernel_rfl) ?_)
  (refine nx (a_load_ptr (gN rfl) rfl rfl rfl rfl rfl rfl rfl rfl rfl) rfl ?_)
  (refine nx (aM (gN rfl) rfl rfl rfl rfl rfl) rfl ?_)
  (refine nx (a_index (j := m) (gN rfl) rfl rfl rfl rfl rfl rfl rfl rfl rfl (hx') rfl (hsz)) rfl ?_)
  (refine nx (a_load_ad (gN rfl) rfl rfl rfl rfl rfl rfl rfl rfl rfl) rfl ?_)
  (refine nx (a_load_ptr (gN rfl) rfl rfl rfl rfl rfl rfl rfl rfl rfl) rfl ?_)
  (refine nx (aM (gN rfl) rfl rfl rfl rfl rfl) rfl ?_)
  (refine nx (a_index (j := n) (gN rfl) rfl rfl rfl rfl rfl rfl rfl rfl rfl (hy') rfl (hsz)) rfl ?_)
  (refine nx (a_load_ad (gN rfl) rfl rfl rfl rfl rfl rfl rfl rfl rfl) rfl ?_)
  (refine nx (a_call (gN rfl) rfl rfl rfl rfl rfl (cSameL_abs w x y (hn.rng x (List.mem_of_getElem? hx)) (hn.rng y (List.mem_of_getElem? hy)))) rfl ?_)
  (refine nx (aA (gN rfl) rfl rfl rfl rfl rfl) rfl ?_)
  refine ⟨by kernel_rfl, ?_⟩
  show AWp _ _ _ _ _ _ _
  exact aT (And.intro (.inr rfl) rfl)
theorem plc2_len (c : List Lt) : (plc2 c).length ≤ c.length := by
  unfold plc2
  have := (cptG_sub (q := sameI c) (L := plc1 c) (plc1 c).length).length_le
  rw [List.take_length] at this
  refine Nat.le_trans this ?_
  unfold plc1
  rw [(srtD_perm _ _).length_eq, nums_len]
  exact Nat.le_refl _
-- 
set_option maxHeartbeats 4000000 in
theorem cWd_abs (W : World) (c : List Lt) (hn : okCl c) : AFun Tryz.prog W 39 [.lst (c.map Lt.cv)] (.val (.lst ((wdL c).map Lt.cv))) := by
  have hlen := hn.1
  have hsz := Lt.size_all c
  obtain ⟨N, hN⟩ : ∃ N, N = nums c.length := ⟨_, rfl⟩
  have hNl : N.length = c.length := by rw [hN, nums_len]
  have hNm : ∀ m ∈ N, ∃ j : Nat, m = j ∧ j < c.length := fun m hm => by
    rw [hN] at hm
    have := nums_mem.1 hm
    exact ⟨m.toNat, by omega, by omega⟩
  have hso := sortStableI_abs (fun m n => cmpLt (litAt c m) (litAt c n)) (.fn 71 0 [.ptr (.lst (c.map Lt.cv))]) N (by omega) (fun W x y hx hy => by
    obtain ⟨i, rfl, hi⟩ := hNm x hx
    obtain ⟨j, rfl, hj⟩ := hNm y hy
    exact .inl ⟨_, _, _, rfl, cWd1_abs W c hn i j hi hj⟩)
  rw [isort_srt0, show srtD (ltG fun m n => cmpLt (litAt c m) (litAt c n)) N = plc1 c by rw [hN]; rfl] at hso
  have h1m : ∀ m ∈ plc1 c, ∃ j : Nat, m = j ∧ j < c.length := fun m hm => by
    have := (plc1_mem c m).1 hm
    exact ⟨m.toNat, by omega, by omega⟩
  have h1l : (plc1 c).length = c.length := by unfold plc1; rw [(srtD_perm _ _).length_eq, nums_len]
  have hco := compactI_abs (sameI c) (.fn 74 0 [.ptr (.lst (c.map Lt.cv))]) (plc1 c) (by omega) (fun W x y hx hy => by
    obtain ⟨i, rfl, hi⟩ := h1m x hx
    obtain ⟨j, rfl, hj⟩ := h1m y hy
    exact .inl ⟨_, _, _, rfl, cWd2_abs W c hn i j hi hj⟩)
  rw [show cptG (sameI c) (plc1 c) (plc1 c).length = plc2 c from rfl] at hco
  have h2l := plc2_len c
  obtain ⟨Z, hZ⟩ : ∃ Z, Z = List.replicate ((plc1 c).length - (plc2 c).length) (0 : Int) := ⟨_, rfl⟩
  rw [← hZ] at hco
  have hor := sortO_abs (plc2 c) Z (by omega) (by rw [hZ, List.length_replicate]; omega)
  rw [show srtD ltO (plc2 c) = plc3 c from rfl] at hor
  have h3l : (plc3 c).length = (plc2 c).length := by unfold plc3; rw [(srtD_perm _ _).length_eq]
  obtain ⟨P1, hP1⟩ : ∃ P, P = plc1 c := ⟨_, rfl⟩
  obtain ⟨P2, hP2⟩ : ∃ P, P = plc2 c := ⟨_, rfl⟩
  obtain ⟨P3, hP3⟩ : ∃ P, P = plc3 c := ⟨_, rfl⟩
  have hwd : wdL c = P3.map (litAt c) := by rw [hP3]; rfl
  have h3m : ∀ m ∈ P3, ∃ j : Nat, m = j ∧ j < c.length := fun m hm => by
    rw [hP3] at hm
    have := ((plc3_mem c m).1 hm).1
    exact ⟨m.toNat, by omega, by omega⟩
  rw [← hP1] at hso hco h1l
  rw [← hP2] at hco hor h2l h3l
  rw [← hP3] at hor h3l
  rw [hwd]
  refine afun_of (rs := [.lst ((P3.map (litAt c)).map Lt.cv)]) Tryz.func39 Tryz.ntmps39 rfl rfl rfl rfl ?_
  intro w U hW
  have hUf : U.f 400000 = none := hW.1 400000
  refine aS (aR ?_)
  (refine nx (a_box (gN rfl) rfl rfl rfl rfl rfl) rfl ?_)
  (refine nx (aA (gN rfl) rfl rfl rfl rfl rfl) rfl ?_)
  show AWp _ _ _ _ _ _ _
  refine AWp.wk (wk_freeze 1 rfl rfl rfl (s' := []) trivial rfl rfl rfl) ?_
  refine aS (aR ?_)
  (refine nx (aA (gN rfl) rfl rfl rfl rfl rfl) rfl ?_)
  show AWp _ _ _ _ _ _ _
  refine aS (aS (aR ?_))
  (refine nx (a_load_ptr (gN rfl) rfl rfl rfl rfl rfl rfl rfl rfl rfl) rfl ?_)
  (refine nx (a_len (gN rfl) rfl rfl rfl rfl rfl rfl rfl) rfl ?_)
  (refine nx (aM (gN rfl) rfl rfl rfl rfl rfl) rfl ?_)
  show AWp _ _ _ _ _ _ _
  refine aB (awp_count c.length (fun k => [(1, .val (.ptr (.lst (c.map Lt.cv)))), (3, .sl 250007 0 (N.take k).length 1), (9, .val (.i (c.map Lt.cv).length)), (10, .val (.i k)), (250007, .mrow 3 1 ((N.take k).map CV.i))])
    ((wk_nilM 3 250007 3 1 rfl rfl rfl rfl rfl).trans (wk_sub ⟨rfl, rfl, rfl, rfl, rfl, trivial⟩)) ?_)
  intro k hk
  refine aS (aR ?_)
  (refine nx (a_lss (gN rfl) rfl rfl rfl rfl rfl rfl) rfl ?_)
  show AWp _ _ _ _ _ _ _
  refine aS (aC rfl (fun hlt => ?_) (fun hlt => ?_))
  · have hkl : k < c.length := by simpa using hlt
    have hNk : N[k]? = some (k : Int) := by rw [hN]; exact nums_at hkl
    have hsz2 : ∀ z ∈ (N.take k).map CV.i, z.size = 1 := ints_size _
    have hl3 : ((N.take k).map CV.i).length = (N.take k).length := List.length_map ..
    have hl4 : (N.take k).length ≤ 12 := by rw [List.length_take]; omega
    refine aK ?_
    show AWp _ _ _ _ _ _ _
    refine aS (aB (aS (aR ?_)))
    (refine nx (aM (gN rfl) rfl rfl rfl rfl rfl) rfl ?_)
    (refine nx (aA (gN rfl) rfl rfl rfl rfl rfl) rfl ?_)
    show AWp _ _ _ _ _ _ _
    refine aR ?_
    (refine nx (aM (gN rfl) rfl rfl rfl rfl rfl) rfl ?_)
    (refine nx (aM (gN rfl) rfl rfl rfl rfl rfl) rfl ?_)
    (refine nx (a_bslice (gN rfl) rfl rfl rfl rfl rfl rfl rfl rfl rfl rfl rfl rfl rfl) rfl ?_)
    (refine nx (a_appM 250016 (gN rfl) rfl rfl rfl rfl rfl rfl rfl rfl rfl rfl rfl rfl rfl (by first | rfl | omega | (simp only [List.length_set, List.length_map, List.length_append, List.length_cons, List.length_nil] <;> omega) | (simp <;> omega)) (by first | assumption | exact sZ rfl | exact Tm.size_all _ | exact Bd.size_all _ | exact ints_size _ | exact bys_size _ | exact Lt.size_all _) (by first | omega | (simp only [List.length_map, List.length_append, List.length_cons, List.length_nil] <;> omega) | (simp <;> omega))) rfl ?_)
    (refine nx (aA (gN rfl) rfl rfl rfl rfl rfl) rfl ?_)
    show AWp _ _ _ _ _ _ _
    refine aR ?_
    (refine nx (a_add (gN rfl) rfl rfl rfl rfl rfl rfl (by first | omega | (simp only [List.length_map, List.length_append, List.length_cons, List.length_nil] <;> omega) | (simp <;> omega))) rfl ?_)
    (refine nx (aM (gN rfl) rfl rfl rfl rfl rfl) rfl ?_)
    refine ⟨hkl, (wk_sub (s' := [(1, .val (.ptr (.lst (c.map Lt.cv)))), (3, .sl 250016 0 (N.take (k + 1)).length 1), (9, .val (.i (c.map Lt.cv).length)), (10, .val (.i ((k + 1 : Nat) : Int))), (250016, .mrow 3 1 ((N.take (k + 1)).map CV.i))]) ⟨rfl, ?_, rfl, rfl, ?_, trivial⟩).trans (wk_ren 250016 250007 rfl rfl (by kernel_rfl) (by kernel_rfl))⟩
    · rw [List.take_add_one, hNk, Option.toList_some, List.length_append, ← hl3]; rfl
    · rw [List.take_add_one, hNk, Option.toList_some, List.map_append]; rfl
  · have hkl : k = N.length := by
      have : ¬ k < c.length := by simpa using hlt
      omega
    subst hkl
    rw [List.take_length]
    refine aE ?_
    show AWp _ _ _ _ _ _ _
    refine AWp.wk ((wk_sub (s' := [(1, .val (.ptr (.lst (c.map Lt.cv)))), (3, .sl 250007 0 N.length 1), (250007, .mrow 3 1 (N.map CV.i))]) ⟨rfl, rfl, rfl, trivial⟩).trans (wk_renF 250007 400000 rfl rfl hUf rfl rfl rfl)) ?_
    refine aS (aR ?_)
    (refine nx (aM (gN rfl) rfl rfl rfl rfl rfl) rfl ?_)
    (refine nx (a_mkfunc (gN rfl) rfl rfl rfl rfl rfl rfl) rfl ?_)
    (refine nx (a_callO (gN rfl) rfl rfl rfl rfl rfl (hso) (by repeat (first | exact trivial | refine ⟨rfl, ?_⟩)) (by first | rfl | kernel_rfl) (by first | rfl | kernel_rfl) (by first | rfl | kernel_rfl) (by first | rfl | kernel_rfl) (hnb_of (by first | rfl | kernel_rfl))) rfl ?_)
    show AWp _ _ _ _ _ _ _
    refine AWp.wk (wk_sub (s' := [(1, .val (.ptr (.lst (c.map Lt.cv)))), (3, .sl 400000 0 P1.length 1), (400000, .mrow 3 1 (P1.map CV.i))]) ⟨rfl, by rw [h1l, ← hNl]; rfl, rfl, trivial⟩) ?_
    refine aS (aR ?_)
    (refine nx (aM (gN rfl) rfl rfl rfl rfl rfl) rfl ?_)
    (refine nx (a_mkfunc (gN rfl) rfl rfl rfl rfl rfl rfl) rfl ?_)
    (refine nx (a_callO (gN rfl) rfl rfl rfl rfl rfl (hco) (by repeat (first | exact trivial | refine ⟨rfl, ?_⟩)) (by first | rfl | kernel_rfl) (by first | rfl | kernel_rfl) (by first | rfl | kernel_rfl) (by first | rfl | kernel_rfl) (hnb_of (by first | rfl | kernel_rfl))) rfl ?_)
    (refine nx (aA (gN rfl) rfl rfl rfl rfl rfl) rfl ?_)
    show AWp _ _ _ _ _ _ _
    refine AWp.wk (wk_sub (s' := [(1, .val (.ptr (.lst (c.map Lt.cv)))), (3, .sl 400000 0 P2.length 1), (400000, .mrow 3 1 ((P2 ++ Z).map CV.i))]) ⟨rfl, rfl, rfl, trivial⟩) ?_
    refine aS (aR ?_)
    (refine nx (aM (gN rfl) rfl rfl rfl rfl rfl) rfl ?_)
    (refine nx (a_callO (gN rfl) rfl rfl rfl rfl rfl (hor) (by repeat (first | exact trivial | refine ⟨rfl, ?_⟩)) (by first | rfl | kernel_rfl) (by first | rfl | kernel_rfl) (by first | rfl | kernel_rfl) (by first | rfl | kernel_rfl) (hnb_of (by first | rfl | kernel_rfl))) rfl ?_)
    show AWp _ _ _ _ _ _ _
    refine AWp.wk (wk_sub (s' := [(1, .val (.ptr (.lst (c.map Lt.cv)))), (3, .sl 400000 0 P3.length 1), (400000, .mrow 3 1 ((P3 ++ Z).map CV.i))]) ⟨rfl, by rw [h3l]; rfl, rfl, trivial⟩) ?_
    refine aS (aR ?_)
    (refine nx (aA (gN rfl) rfl rfl rfl rfl rfl) rfl ?_)
    show AWp _ _ _ _ _ _ _
    refine aS (aS (aR ?_))
    (refine nx (aM (gN rfl) rfl rfl rfl rfl rfl) rfl ?_)
    (refine nx (a_lenM (gN rfl) rfl rfl rfl rfl rfl rfl rfl) rfl ?_)
    (refine nx (aM (gN rfl) rfl rfl rfl rfl rfl) rfl ?_)
    show AWp _ _ _ _ _ _ _
    refine aB (awp_count P3.length (fun k => [(1, .val (.ptr (.lst (c.map Lt.cv)))), (5, .own (.lst (((P3.take k).map (litAt c)).map Lt.cv)) 200038), (200038, .tok 63 5), (26, .sl 400000 0 P3.length 1), (27, .val (.i P3.length)), (28, .val (.i k)), (400000, .mrow 3 1 ((P3 ++ Z).map CV.i))])
      ((wk_nil 5 200038 63 5 rfl rfl rfl rfl rfl rfl rfl).trans (wk_sub ⟨rfl, rfl, rfl, rfl, rfl, rfl, rfl, trivial⟩)) ?_)
    intro k hk
    refine aS (aR ?_)
    (refine nx (a_lss (gN rfl) rfl rfl rfl rfl rfl rfl) rfl ?_)
    show AWp _ _ _ _ _ _ _
    refine aS (aC rfl (fun hlt => ?_) (fun hlt => ?_))
    · have hkl : k < P3.length := by simpa using hlt
      obtain ⟨m, hm⟩ : ∃ x, P3[k]? = some x := ⟨P3[k], List.getElem?_eq_getElem hkl⟩
      obtain ⟨j, rfl, hj⟩ := h3m m (List.mem_of_getElem? hm)
      have hm' : ((P3 ++ Z).map CV.i)[k]? = some (.i j) := ints_at (by rw [List.getElem?_append_left hkl]; exact hm)
      have hkz : k < (P3 ++ Z).length := by rw [List.length_append]; omega
      obtain ⟨x, hx⟩ : ∃ x, c[j]? = some x := ⟨c[j], List.getElem?_eq_getElem hj⟩
      have hx' := Lt.map_at hx
      have hli := litAt_at hx
      have hst3 : (P3.take (k + 1)).map (litAt c) = (P3.take k).map (litAt c) ++ [x] := by rw [List.take_add_one, hm, Option.toList_some, List.map_append, List.map_singleton, hli]
      have hst4 : ((P3.take (k + 1)).map (litAt c)).map Lt.cv = ((P3.take k).map (litAt c)).map Lt.cv ++ [x.cw] := by rw [hst3, List.map_append]; rfl
      have hsz2 : ∀ z ∈ ((P3.take k).map (litAt c)).map Lt.cv, z.size = 5 := Lt.size_all _
      have hl3 : (((P3.take k).map (litAt c)).map Lt.cv).length ≤ 12 := by rw [List.length_map, List.length_map, List.length_take]; omega
      refine aK ?_
      show AWp _ _ _ _ _ _ _
      refine aS (aB (aS (aR ?_)))
      (refine nx (aIm (k := k) (gN rfl) rfl rfl rfl rfl rfl rfl rfl rfl rfl (by first | rfl | omega | (simp only [List.length_set, List.length_map, List.length_append, List.length_cons, List.length_nil] <;> omega) | (simp <;> omega))) rfl ?_)
      (refine nx (a_loadM (gN rfl) rfl rfl rfl rfl rfl rfl rfl rfl (hm') rfl (by first | rfl | omega | (simp only [List.length_set, List.length_map, List.length_append, List.length_cons, List.length_nil] <;> omega) | (simp <;> omega)) rfl rfl) rfl ?_)
      (refine nx (aA (gN rfl) rfl rfl rfl rfl rfl) rfl ?_)
      show AWp _ _ _ _ _ _ _
      refine aR ?_
      (refine nx (aM (gN rfl) rfl rfl rfl rfl rfl) rfl ?_)
      (refine nx (a_load_ptr (gN rfl) rfl rfl rfl rfl rfl rfl rfl rfl rfl) rfl ?_)
      (refine nx (aM (gN rfl) rfl rfl rfl rfl rfl) rfl ?_)
      (refine nx (a_index (j := j) (gN rfl) rfl rfl rfl rfl rfl rfl rfl rfl rfl (hx') rfl (hsz)) rfl ?_)
      (refine nx (a_load_ad (gN rfl) rfl rfl rfl rfl rfl rfl rfl rfl rfl) rfl ?_)
      (refine nx (a_bslice (gN rfl) rfl rfl rfl rfl rfl rfl rfl rfl rfl rfl rfl rfl rfl) rfl ?_)
      (refine nx (a_app (gN rfl) rfl rfl rfl rfl rfl rfl rfl rfl rfl rfl rfl rfl rfl rfl rfl (by first | assumption | exact sZ rfl | exact Tm.size_all _ | exact Bd.size_all _ | exact ints_size _ | exact bys_size _ | exact Lt.size_all _) (by first | assumption | exact sZ rfl | exact Tm.size_all _ | exact Bd.size_all _ | exact ints_size _ | exact bys_size _ | exact Lt.size_all _) (by first | omega | (simp only [List.length_map, List.length_append, List.length_cons, List.length_nil] <;> omega) | (simp <;> omega))) rfl ?_)
      (refine nx (aA (gN rfl) rfl rfl rfl rfl rfl) rfl ?_)
      show AWp _ _ _ _ _ _ _
      refine aR ?_
      (refine nx (a_add (gN rfl) rfl rfl rfl rfl rfl rfl (by first | omega | (simp only [List.length_map, List.length_append, List.length_cons, List.length_nil] <;> omega) | (simp <;> omega))) rfl ?_)
      (refine nx (aM (gN rfl) rfl rfl rfl rfl rfl) rfl ?_)
      refine ⟨hkl, Wk.trans (wk_sub (s' := [(1, .val (.ptr (.lst (c.map Lt.cv)))), (5, .own (.lst (((P3.take (k + 1)).map (litAt c)).map Lt.cv)) 300038), (300038, .tok 63 5), (26, .sl 400000 0 P3.length 1), (27, .val (.i P3.length)), (28, .val (.i ((k + 1 : Nat) : Int))), (400000, .mrow 3 1 ((P3 ++ Z).map CV.i))]) ⟨rfl, ?_, rfl, rfl, rfl, rfl, rfl, trivial⟩) (wk_ren 300038 200038 rfl rfl rfl rfl)⟩
      rw [hst4]; rfl
    · have hkl : k = P3.length := by
        have : ¬ k < P3.length := by simpa using hlt
        omega
      subst hkl
      rw [List.take_length]
      refine aE ?_
      show AWp _ _ _ _ _ _ _
      refine aS (aR ?_)
      (refine nx (aM (gN rfl) rfl rfl rfl rfl rfl) rfl ?_)
      (refine nx (aA (gN rfl) rfl rfl rfl rfl rfl) rfl ?_)
      show AWp _ _ _ _ _ _ _
      exact aT (And.intro (.inr rfl) rfl)
-- 
theorem cNorm_abs (W : World) (c : List Lt) (hn : okCl c) : AFun Tryz.prog W 15 [.lst (c.map Lt.cv)] (.val (.lst ((nmP c).map Lt.cv))) := by
  have hi : okCl (inL c) := by rw [inL_eq]; exact hn.inD
  obtain ⟨hr, hok, hsi⟩ := hi.sid
  have hap := fun w => cApply_abs w (bndV (inL c) id) (inL c) (by have := hi.1; omega) (by rw [bndV_len]; have := hi.nv; omega) (bndV_ok _ _ (fun n h1 h2 => ⟨h1, h2⟩) hi) hr hok
  have hwd := fun w => cWd_abs w _ (hi.rep (bndV_var (inL c) id (fun n h1 h2 => ⟨h1, h2⟩) hi))
  unfold nmP
  rw [← numB_eq]
  refine afun_of (rs := [.lst ((wdL ((inL c).map (Lt.rep (imgB (bndV (inL c) id))))).map Lt.cv)]) Tryz.func15 Tryz.ntmps15 rfl rfl rfl rfl ?_
  intro w U hW
  refine aS (aR ?_)
  (refine nx (aA (gN rfl) rfl rfl rfl rfl rfl) rfl ?_)
  show AWp _ _ _ _ _ _ _
  refine aS (aR ?_)
  (refine nx (aM (gN rfl) rfl rfl rfl rfl rfl) rfl ?_)
  (refine nx (a_call (gN rfl) rfl rfl rfl rfl rfl (cIn_abs w c hn)) rfl ?_)
  (refine nx (aA (gN rfl) rfl rfl rfl rfl rfl) rfl ?_)
  show AWp _ _ _ _ _ _ _
  refine aS (aR ?_)
  (refine nx (aM (gN rfl) rfl rfl rfl rfl rfl) rfl ?_)
  (refine nx (a_call (gN rfl) rfl rfl rfl rfl rfl (cNew_abs w (inL c) hi)) rfl ?_)
  (refine nx (aM (gN rfl) rfl rfl rfl rfl rfl) rfl ?_)
  (refine nx (a_call (gN rfl) rfl rfl rfl rfl rfl (hap w)) rfl ?_)
  (refine nx (a_call (gN rfl) rfl rfl rfl rfl rfl (hwd w)) rfl ?_)
  (refine nx (aA (gN rfl) rfl rfl rfl rfl rfl) rfl ?_)
  show AWp _ _ _ _ _ _ _
  exact aT (And.intro (.inr rfl) rfl)
theorem okCl.norm {c : List Lt} (hn : okCl c) : okCl (nmP c) := by
  unfold nmP
  rw [wd_ded, inL_eq, ← numB_eq]
  exact (hn.inD.rep (bndV_var _ id (fun n h1 h2 => ⟨h1, h2⟩) hn.inD)).ded
end Go.Proofs.YtmeegdomncadpaaGreat
namespace Go.Proofs.YtmeegdomncadpaaGreat
open Go.RowKit
set_option linter.unusedVariables false
set_option linter.unusedSimpArgs false
def alk (x y : Lt) : Prop := (x.a.strip = y.a.strip ∧ x.b.strip = y.b.strip) ∨ (x.a.strip = y.b.strip ∧ x.b.strip = y.a.strip)
def TautQ (c : List Lt) : Prop := (∃ l ∈ c, l.neg = false ∧ l.a.strip = l.b.strip) ∨ ∃ x ∈ c, ∃ y ∈ c, x.neg ≠ y.neg ∧ alk x y
theorem cmpT_congr2 {a a' b b' : Tm} (h : a.strip = a'.strip) (h2 : b.strip = b'.strip) : cmpT a b = cmpT a' b' := by
  rw [cmpT_congr h, cmpT_turn b a', cmpT_congr h2, ← cmpT_turn]
theorem trn_alk (x y : Lt) : cmpS (trnL x) (trnL y) = 0 ↔ alk x y := by
  rw [cmpS_zero]
  obtain ⟨n, a, b⟩ := x
  obtain ⟨m, e, f⟩ := y
  unfold trnL alk othL
  simp only
  constructor
  · intro h
    split at h <;> split at h <;> simp only at h
    · exact .inl h
    · exact .inr h
    · exact .inr ⟨h.2, h.1⟩
    · exact .inl ⟨h.2, h.1⟩
  · rintro (⟨h1, h2⟩ | ⟨h1, h2⟩)
    · have := cmpT_congr2 h1 h2
      rw [this]
      split
      · exact ⟨h1, h2⟩
      · exact ⟨h2, h1⟩
    · have h3 := cmpT_congr2 h1 h2
      have h4 := cmpT_turn e f
      by_cases g : 0 ≤ cmpT a b
      · by_cases g2 : 0 ≤ cmpT e f
        · rw [if_pos g, if_pos g2]
          have z := (cmpT_zero a b).1 (by omega)
          have z2 := (cmpT_zero e f).1 (by omega)
          exact ⟨by rw [z, h2], by rw [← z, h1]⟩
        · rw [if_pos g, if_neg g2]
          exact ⟨h1, h2⟩
      · rw [if_neg g, if_pos (by omega)]
        exact ⟨h2, h1⟩
theorem srtL_pw (M : List Lt) : (srtL M).Pairwise fun x y => cmpS x y ≤ 0 := by
  unfold srtL
  rw [isort_srt0]
  refine srtD_pairwise _ (fun x y h => ?_) (fun x y z h1 h2 => (cmpS_trans x y z h1 h2).1) (List.pairwise_of_forall fun x y h => ?_)
  · have : cmpS x y < 0 := by simpa [ltL] using h
    omega
  · have : ¬ cmpS y x < 0 := by simpa [ltL] using h
    have e := cmpS_turn x y
    omega
theorem srtL_mem {M : List Lt} {x : Lt} : x ∈ srtL M ↔ x ∈ M := by
  unfold srtL
  rw [isort_srt0, (srtD_perm _ _).mem_iff]
theorem adj_of {S : List Lt} (hS : S.Pairwise fun x y => cmpS x y ≤ 0) : ∀ (d i : Nat) (x y : Lt), S[i]? = some x → S[i + d + 1]? = some y → x.neg ≠ y.neg → cmpS x y = 0 → ∃ k, k < S.length ∧ chkL S k = true
  | d, i, x, y, hx, hy, hn, he => by
    have hlt : i + d + 1 < S.length := (List.getElem?_eq_some_iff.1 hy).1
    obtain ⟨z, hz⟩ : ∃ z, S[i + 1]? = some z := ⟨_, List.getElem?_eq_getElem (by omega)⟩
    have hxz := pw_at hS hx hz (by omega)
    have hz0 : cmpS x z = 0 ∧ cmpS z y = 0 := by
      cases d with
      | zero =>
        rw [show i + 0 + 1 = i + 1 by omega, hz] at hy
        injection hy with hy
        subst hy
        exact ⟨he, (cmpS_zero _ _).2 ⟨rfl, rfl⟩⟩
      | succ d => exact (cmpS_trans x z y hxz (pw_at hS hz hy (by omega))).2 he
    by_cases hs : z.neg = x.neg
    · cases d with
      | zero =>
        rw [show i + 0 + 1 = i + 1 by omega, hz] at hy
        injection hy with hy
        subst hy
        exact absurd hs.symm hn
      | succ d =>
        exact adj_of hS d (i + 1) z y hz (by rw [show i + 1 + d + 1 = i + (d + 1) + 1 by omega]; exact hy) (by rw [hs]; exact hn) hz0.2
    · refine ⟨i + 1, by omega, ?_⟩
      unfold chkL
      rw [hz, show i + 1 - 1 = i by omega, hx]
      have := cmpS_turn x z
      simp only [Bool.and_eq_true, decide_eq_true_iff, Bool.not_eq_true', beq_eq_false_iff_ne]
      exact ⟨by omega, hs, by omega⟩
theorem adj_iff {S : List Lt} (hS : S.Pairwise fun x y => cmpS x y ≤ 0) : adjB S = true ↔ ∃ x ∈ S, ∃ y ∈ S, x.neg ≠ y.neg ∧ cmpS x y = 0 := by
  unfold adjB
  rw [List.any_eq_true]
  constructor
  · rintro ⟨i, hi, h⟩
    unfold chkL at h
    split at h
    · rename_i x y hx hy
      simp only [Bool.and_eq_true, decide_eq_true_iff, Bool.not_eq_true', beq_eq_false_iff_ne] at h
      exact ⟨x, List.mem_of_getElem? hx, y, List.mem_of_getElem? hy, h.2.1, h.2.2⟩
    · cases h
  · rintro ⟨x, hx, y, hy, hn, he⟩
    obtain ⟨i, hi, ei⟩ := List.mem_iff_getElem.1 hx
    obtain ⟨j, hj, ej⟩ := List.mem_iff_getElem.1 hy
    have hx' : S[i]? = some x := by rw [List.getElem?_eq_getElem hi, ei]
    have hy' : S[j]? = some y := by rw [List.getElem?_eq_getElem hj, ej]
    rcases Nat.lt_trichotomy i j with h | h | h
    · obtain ⟨k, hk, e⟩ := adj_of hS (j - i - 1) i x y hx' (by rw [show i + (j - i - 1) + 1 = j by omega]; exact hy') hn he
      exact ⟨k, List.mem_range.2 hk, e⟩
    · subst h
      rw [hx'] at hy'
      injection hy' with hy'
      exact absurd (by rw [hy']) hn
    · obtain ⟨k, hk, e⟩ := adj_of hS (i - j - 1) j y x hy' (by rw [show j + (i - j - 1) + 1 = i by omega]; exact hx') (fun e => hn e.symm) (by have := cmpS_turn x y; omega)
      exact ⟨k, List.mem_range.2 hk, e⟩
theorem taut_iff (c : List Lt) : tautP c = true ↔ TautQ c := by
  unfold tautP TautQ
  rw [Bool.or_eq_true, List.any_eq_true, adj_iff (srtL_pw _)]
  refine or_congr ?_ ?_
  · refine exists_congr fun l => and_congr Iff.rfl ?_
    unfold holdB
    rw [Bool.and_eq_true, sameT_iff]
    simp
  · have tn : ∀ l, (trnL l).neg = l.neg := fun l => by
      unfold trnL
      split <;> rfl
    constructor
    · rintro ⟨x, hx, y, hy, hn, he⟩
      obtain ⟨u, hu, rfl⟩ := List.mem_map.1 (srtL_mem.1 hx)
      obtain ⟨v, hv, rfl⟩ := List.mem_map.1 (srtL_mem.1 hy)
      rw [tn, tn] at hn
      exact ⟨u, hu, v, hv, hn, (trn_alk _ _).1 he⟩
    · rintro ⟨x, hx, y, hy, hn, he⟩
      exact ⟨trnL x, srtL_mem.2 (List.mem_map_of_mem hx), trnL y, srtL_mem.2 (List.mem_map_of_mem hy), by rw [tn, tn]; exact hn, (trn_alk _ _).2 he⟩
def ttD1 (x y : Lt) : Bool := (x.neg && !y.neg) && (sameL x ⟨true, y.a, y.b⟩ || sameL x ⟨true, y.b, y.a⟩)
def ttD (c : List Lt) : Bool := c.any fun x => (!x.neg && sameT x.a x.b) || c.any (ttD1 x)
theorem TautQ.sub {c d : List Lt} (h : TautQ c) (hs : ∀ l ∈ c, l ∈ d) : TautQ d := by
  rcases h with ⟨l, hl, r⟩ | ⟨x, hx, y, hy, r⟩
  · exact .inl ⟨l, hs l hl, r⟩
  · exact .inr ⟨x, hs x hx, y, hs y hy, r⟩
theorem TautQ.turn {c d : List Lt} (h : TautQ c) (hs : ∀ l ∈ c, ∃ m ∈ d, m.neg = l.neg ∧ alk m l) : TautQ d := by
  rcases h with ⟨l, hl, hn, he⟩ | ⟨x, hx, y, hy, hn, he⟩
  · obtain ⟨m, hm, e1, e2⟩ := hs l hl
    refine .inl ⟨m, hm, by rw [e1, hn], ?_⟩
    rcases e2 with ⟨p, q⟩ | ⟨p, q⟩
    · rw [p, q, he]
    · rw [p, q, he]
  · obtain ⟨m, hm, e1, e2⟩ := hs x hx
    obtain ⟨k, hk, f1, f2⟩ := hs y hy
    refine .inr ⟨m, hm, k, hk, by rw [e1, f1]; exact hn, ?_⟩
    unfold alk at *
    rcases e2 with ⟨p, q⟩ | ⟨p, q⟩ <;> rcases f2 with ⟨p2, q2⟩ | ⟨p2, q2⟩ <;> rcases he with ⟨p3, q3⟩ | ⟨p3, q3⟩ <;> simp [p, q, p2, q2, p3, q3]
theorem TautQ.rep {c : List Lt} (h : TautQ c) (img : Int → Tm) : TautQ (c.map (Lt.rep img)) := by
  have key : ∀ s t : Tm, s.strip = t.strip → (repT img s).strip = (repT img t).strip := fun s t e => by
    rw [← rep_strip img s, ← rep_strip img t, e]
  rcases h with ⟨l, hl, hn, he⟩ | ⟨x, hx, y, hy, hn, he⟩
  · exact .inl ⟨_, List.mem_map_of_mem hl, hn, key _ _ he⟩
  · refine .inr ⟨_, List.mem_map_of_mem hx, _, List.mem_map_of_mem hy, hn, ?_⟩
    rcases he with ⟨p, q⟩ | ⟨p, q⟩
    · exact .inl ⟨key _ _ p, key _ _ q⟩
    · exact .inr ⟨key _ _ p, key _ _ q⟩
theorem TautQ.norm {c : List Lt} (h : TautQ c) : TautQ (nmP c) := by
  unfold nmP
  rw [wd_ded, inL_eq]
  have h1 : TautQ (inD c) := h.turn fun l hl => ⟨rtL l, inD_mem.2 ⟨l, hl, rfl⟩, by rcases rtL_or l with e | e <;> rw [e] <;> rfl, by
    rcases rtL_or l with e | e <;> rw [e]
    · exact .inl ⟨rfl, rfl⟩
    · exact .inr ⟨rfl, rfl⟩⟩
  refine (h1.rep (imgB (numB (inD c)))).turn fun l hl => ?_
  obtain ⟨m, hm, e⟩ := dedD_rep (q := smL) (fun x => by unfold smL; rw [decide_eq_true_iff, cmpLt_zero]) hl
  unfold smL at e
  rw [decide_eq_true_iff, cmpLt_zero] at e
  obtain ⟨n, a, b⟩ := m
  obtain ⟨n2, a2, b2⟩ := l
  simp only [Lt.strip, Lt.mk.injEq] at e
  exact ⟨_, hm, e.1, .inl ⟨e.2.1, e.2.2⟩⟩
end Go.Proofs.YtmeegdomncadpaaGreat
namespace Go.Proofs.YtmeegdomncadpaaGreat
open Go.RowKit
set_option linter.unusedVariables false
set_option linter.unusedSimpArgs false
set_option maxRecDepth 100000
def blkT (t : Tm) : Tm := appR (zipB t.nv ((nums t.nv.length).map fun _ => 0)) t
def okL (l : Lt) : Prop := (l.a.rng ∧ l.a.ok ∧ l.a.size ≤ 1000) ∧ (l.b.rng ∧ l.b.ok ∧ l.b.size ≤ 1000)
def renB (c : List Lt) (k : Int) : List Bd := zipB (sidT c).nv ((sidT c).nv.map fun v => v + k)
def topD (l : List Int) : Int := l.foldl max (-1)

section
variable {P : Program} {w0 : World} {U0 : UX} {nt : Nat} {ops : Array Oper} {o : Oper} {S : Nat → Option AV} {gs : List Nat} {d : Nat}
end

def topC (c : List Lt) : Int := c.foldl (fun m l => max (max m (topF l.a.flat)) (topF l.b.flat)) (-1)
def nothL (l : Lt) : Bool := l.neg && sameT l.a l.b
def bareL (c : List Lt) : List Lt := (c.filter fun l => !nothL l).map Lt.strip
theorem small_f {t : Tm} {most deep : Int} (h0 : 0 ≤ most) (h1 : most ≤ 30) (h : 0 ≤ smallT t most deep) : t.sm ∧ t.rng ∧ t.ok ∧ t.size ≤ 30 := by
  have hsm := small_sm t _ _ h
  have hwt : t.wt ≤ 30 := by have := (small_bounds t most deep h0).2.2 h; omega
  exact ⟨hsm, Tm.sm_rng hsm, Tm.wt_ok (t := t) (by omega), Nat.le_trans t.size_wt hwt⟩
theorem fine7_f {l : List Bd} (h : fine7B l = true) : l.length ≤ 8 ∧ bdsOk l ∧ ∀ b ∈ l, b.t.ok := by
  unfold fine7B at h
  rw [Bool.and_eq_true, List.all_eq_true, decide_eq_true_eq] at h
  obtain ⟨h1, h2⟩ := h
  have hf : ∀ b ∈ l, b.t.rng ∧ b.t.ok ∧ b.t.size ≤ 30 := fun b hb => by
    have := h1 b hb
    unfold fineBd at this
    simp only [Bool.and_eq_true, decide_eq_true_eq] at this
    exact (small_f (by decide) (by decide) this.2.2).2
  exact ⟨h2, fun b hb => ⟨(hf b hb).1, by have := (hf b hb).2.2; omega⟩, fun b hb => (hf b hb).2.1⟩
theorem fine_okCl {c : List Lt} {most : Nat} {size : Int} (h0 : 0 ≤ size) (h1 : size ≤ 60) (hm : most ≤ 12) (h : fineC c most size = true) : okCl c ∧ (∀ l ∈ c, l.a.sm ∧ l.b.sm) ∧ ∀ l ∈ c, (l.a.size : Int) ≤ size ∧ (l.b.size : Int) ≤ size := by
  obtain ⟨hl, hf⟩ := fineC_facts h0 h1 h
  refine ⟨⟨by omega, fun l hm => ?_⟩, fun l hm => ⟨(hf l hm).1.1.1, (hf l hm).2.1.1⟩, fun l hm => ⟨(hf l hm).1.2.2, (hf l hm).2.2.2⟩⟩
  obtain ⟨⟨⟨_, r1, o1⟩, _, s1⟩, ⟨_, r2, o2⟩, _, s2⟩ := hf l hm
  exact ⟨⟨r1, o1, by omega⟩, r2, o2, by omega⟩
theorem okCl.okC {c : List Lt} (h : okCl c) : okC c := h.rng
end Go.Proofs.YtmeegdomncadpaaGreat
