/-
  SbClone SbNorm SbNorm2 SbSortM SbLaw3 SbThen UnMath UnCls UnInv UnMod UnJoin UnRun UnKahn UnUse
-/
import Derived.Test.YteegmcfobgpemaaGreatMg4
namespace Go.Proofs.YteegmcfobgpemaaGreat
open Go.RowKit
set_option linter.unusedVariables false
set_option linter.unusedSimpArgs false
set_option maxRecDepth 100000
theorem cmp_abs (W : World) (x y : Int) : AFun Tryz.prog W 137 [.i x, .i y] (.val (.i (cmpZ x y))) := by
  refine ⟨ent_of Tryz.func137 rfl rfl, .inl rfl, rfl, ?_⟩
  rintro U w vs hW ⟨u1, us1, rfl, h1, u2, us2, rfl, h2, h3⟩
  have h3 : us2 = [] := h3
  subst h3
  obtain ⟨rfl, _⟩ := vrep_sc.1 h1
  obtain ⟨rfl, _⟩ := vrep_sc.1 h2
  refine (cmpInt_any x y w).mono ?_
  rintro e w' ⟨rfl, hb⟩
  exact ⟨_, rfl, vrep_sc.2 ⟨rfl, rfl⟩, hb⟩

def cmpB (x y : Bd) : Int := cmpZ x.v y.v
-- 
theorem cmpB_abs (W : World) (x y : Bd) : AFun Tryz.prog W 178 [x.cw, y.cw] (.val (.i (cmpB x y))) := by
  refine afun_of (rs := [.i (cmpB x y)]) Tryz.func178 Tryz.ntmps178 rfl rfl rfl rfl ?_
  intro w U hW
  refine aS (aR ?_)
  (refine nx (a_box (gN rfl) rfl rfl rfl rfl rfl) rfl ?_)
  (refine nx (a_box (gN rfl) rfl rfl rfl rfl rfl) rfl ?_)
  (refine nx (aA (gN rfl) rfl rfl rfl rfl rfl) rfl ?_)
  show AWp _ _ _ _ _ _ _
  refine aS (aR ?_)
  (refine nx (aF (gN rfl) rfl rfl rfl rfl rfl rfl rfl rfl rfl) rfl ?_)
  (refine nx (aLb (gN rfl) rfl rfl rfl rfl rfl rfl rfl rfl rfl rfl rfl rfl) rfl ?_)
  (refine nx (aF (gN rfl) rfl rfl rfl rfl rfl rfl rfl rfl rfl) rfl ?_)
  (refine nx (aLb (gN rfl) rfl rfl rfl rfl rfl rfl rfl rfl rfl rfl rfl rfl) rfl ?_)
  (refine nx (a_call (gN rfl) rfl rfl rfl rfl rfl (cmp_abs _ x.v y.v)) rfl ?_)
  (refine nx (aA (gN rfl) rfl rfl rfl rfl rfl) rfl ?_)
  show AWp _ _ _ _ _ _ _
  exact aT ⟨.inr rfl, rfl⟩
-- 
theorem sameB_abs (W : World) (x y : Bd) : AFun Tryz.prog W 180 [x.cw, y.cw] (.val (.b (decide (x.v = y.v)))) := by
  refine afun_of (rs := [.b (decide (x.v = y.v))]) Tryz.func180 Tryz.ntmps180 rfl rfl rfl rfl ?_
  intro w U hW
  refine aS (aR ?_)
  (refine nx (a_box (gN rfl) rfl rfl rfl rfl rfl) rfl ?_)
  (refine nx (a_box (gN rfl) rfl rfl rfl rfl rfl) rfl ?_)
  (refine nx (aA (gN rfl) rfl rfl rfl rfl rfl) rfl ?_)
  show AWp _ _ _ _ _ _ _
  refine aS (aR ?_)
  (refine nx (aF (gN rfl) rfl rfl rfl rfl rfl rfl rfl rfl rfl) rfl ?_)
  (refine nx (aLb (gN rfl) rfl rfl rfl rfl rfl rfl rfl rfl rfl rfl rfl rfl) rfl ?_)
  (refine nx (aF (gN rfl) rfl rfl rfl rfl rfl rfl rfl rfl rfl) rfl ?_)
  (refine nx (aLb (gN rfl) rfl rfl rfl rfl rfl rfl rfl rfl rfl rfl rfl rfl) rfl ?_)
  (refine nx (a_eql (gN rfl) rfl rfl rfl rfl rfl rfl) rfl ?_)
  (refine nx (aA (gN rfl) rfl rfl rfl rfl rfl) rfl ?_)
  show AWp _ _ _ _ _ _ _
  exact aT ⟨.inr rfl, rfl⟩
def idleB (b : Bd) : Bool := decide (b.t.f < 0) && decide (-1 - b.t.f = b.v)
-- 
theorem idle_abs (W : World) (b : Bd) (h1 : -9223372036854775808 ≤ b.t.f) : AFun Tryz.prog W 160 [b.cw] (.val (.b (idleB b))) := by
  refine afun_of (rs := [.b (idleB b)]) Tryz.func160 Tryz.ntmps160 rfl rfl rfl rfl ?_
  intro w U hW
  refine aS (aR ?_)
  (refine nx (a_box (gN rfl) rfl rfl rfl rfl rfl) rfl ?_)
  (refine nx (aA (gN rfl) rfl rfl rfl rfl rfl) rfl ?_)
  show AWp _ _ _ _ _ _ _
  unfold idleB
  by_cases hf : b.t.f < 0
  · have g : decide (b.t.f < 0) = true := by simpa using hf
    refine aS (aD (by kernel_rfl) (by kernel_rfl) ?_)
    (refine nx (aF (gN rfl) rfl rfl rfl rfl rfl rfl rfl rfl rfl) rfl ?_)
    (refine nx (aLb (gN rfl) rfl rfl rfl rfl rfl rfl rfl rfl rfl rfl rfl rfl) rfl ?_)
    (refine nx (a_call (gN rfl) rfl rfl rfl rfl rfl (sIsVar_abs _ b.t)) rfl ?_)
    (refine nx (aM (gN rfl) rfl rfl rfl rfl rfl) rfl ?_)
    (refine nx (aF (gd_on rfl rfl rfl rfl (by first | rfl | assumption | (simp; done))) rfl rfl rfl rfl rfl rfl rfl rfl rfl) rfl ?_)
    (refine nx (aLb (gd_on rfl rfl rfl rfl (by first | rfl | assumption | (simp; done))) rfl rfl rfl rfl rfl rfl rfl rfl rfl rfl rfl rfl) rfl ?_)
    (refine nx (a_call (gd_on rfl rfl rfl rfl (by first | rfl | assumption | (simp; done))) rfl rfl rfl rfl rfl (sNumber_abs _ b.t h1 hf)) rfl ?_)
    (refine nx (aF (gd_on rfl rfl rfl rfl (by first | rfl | assumption | (simp; done))) rfl rfl rfl rfl rfl rfl rfl rfl rfl) rfl ?_)
    (refine nx (aLb (gd_on rfl rfl rfl rfl (by first | rfl | assumption | (simp; done))) rfl rfl rfl rfl rfl rfl rfl rfl rfl rfl rfl rfl) rfl ?_)
    (refine nx (a_eql (gd_on rfl rfl rfl rfl (by first | rfl | assumption | (simp; done))) rfl rfl rfl rfl rfl rfl) rfl ?_)
    (refine ⟨_, _, _, aPt (gN rfl) rfl rfl rfl rfl rfl ?hb rfl, rfl, ?_⟩; case hb => (first | rfl | assumption | (simp; done)))
    (refine nx (aA (gN rfl) rfl rfl rfl rfl rfl) rfl ?_)
    refine ⟨by kernel_rfl, ?_⟩
    show AWp _ _ _ _ _ _ _
    refine aT ⟨.inr rfl, ?_⟩
    rw [g]; rfl
  · have g : decide (b.t.f < 0) = false := by simpa using hf
    refine aS (aD (by kernel_rfl) (by kernel_rfl) ?_)
    (refine nx (aF (gN rfl) rfl rfl rfl rfl rfl rfl rfl rfl rfl) rfl ?_)
    (refine nx (aLb (gN rfl) rfl rfl rfl rfl rfl rfl rfl rfl rfl rfl rfl rfl) rfl ?_)
    (refine nx (a_call (gN rfl) rfl rfl rfl rfl rfl (sIsVar_abs _ b.t)) rfl ?_)
    (refine nx (aM (gN rfl) rfl rfl rfl rfl rfl) rfl ?_)
    (refine ⟨_, _, _, a_off (go_off rfl rfl rfl rfl (by first | rfl | assumption | (simp; done) | (simp [*]; done))) rfl rfl rfl, rfl, ?_⟩)
    (refine ⟨_, _, _, a_off (go_off rfl rfl rfl rfl (by first | rfl | assumption | (simp; done) | (simp [*]; done))) rfl rfl rfl, rfl, ?_⟩)
    (refine ⟨_, _, _, a_off (go_off rfl rfl rfl rfl (by first | rfl | assumption | (simp; done) | (simp [*]; done))) rfl rfl rfl, rfl, ?_⟩)
    (refine ⟨_, _, _, a_off (go_off rfl rfl rfl rfl (by first | rfl | assumption | (simp; done) | (simp [*]; done))) rfl rfl rfl, rfl, ?_⟩)
    (refine ⟨_, _, _, a_off (go_off rfl rfl rfl rfl (by first | rfl | assumption | (simp; done) | (simp [*]; done))) rfl rfl rfl, rfl, ?_⟩)
    (refine ⟨_, _, _, a_off (go_off rfl rfl rfl rfl (by first | rfl | assumption | (simp; done) | (simp [*]; done))) rfl rfl rfl, rfl, ?_⟩)
    (refine ⟨_, _, _, aPf (gN rfl) rfl rfl rfl rfl rfl ?hb rfl, rfl, ?_⟩; case hb => (first | rfl | assumption | (simp; done)))
    (refine nx (aA (gN rfl) rfl rfl rfl rfl rfl) rfl ?_)
    refine ⟨by kernel_rfl, ?_⟩
    show AWp _ _ _ _ _ _ _
    refine aT ⟨.inr rfl, ?_⟩
    rw [g]; rfl

-- 
theorem cloneB_abs (L : List Bd) (hn : L.length ≤ 1000000000) :
    AFunO Tryz.prog 176 [] [.val (.lst (L.map Bd.cv))] (.sl 250007 0 L.length 3) [(250007, .mrow 112 3 (L.map Bd.cv))] := by
  have hsz := Bd.size_all L
  refine afunO_of Tryz.func176 Tryz.ntmps176 rfl rfl rfl rfl rfl rfl ?_
  intro w U hU
  refine AWp.nil 0 rfl rfl (fun hl => ?_) ?_
  · have hL : L = [] := by simpa using hl
    subst hL
    refine aS (aR ?_)
    (refine nx (aA (gN rfl) rfl rfl rfl rfl rfl) rfl ?_)
    show AWp _ _ _ _ _ _ _
    refine aS (aS (aR ?_))
    (refine nx (aM (gN rfl) rfl rfl rfl rfl rfl) rfl ?_)
    (refine nx (a_isnil (gN rfl) rfl rfl rfl rfl rfl rfl) rfl ?_)
    show AWp _ _ _ _ _ _ _
    refine aC rfl (fun _ => ?_) (fun h => by cases h)
    refine aS (aR ?_)
    (refine nx (aA (gN rfl) rfl rfl rfl rfl rfl) rfl ?_)
    show AWp _ _ _ _ _ _ _
    exact aT ⟨.inr rfl, _, wk_nilM 2 250007 112 3 rfl rfl rfl rfl rfl, rfl, rfl, trivial⟩
  · refine aS (aR ?_)
    (refine nx (aA (gN rfl) rfl rfl rfl rfl rfl) rfl ?_)
    show AWp _ _ _ _ _ _ _
    refine aS (aS (aR ?_))
    (refine nx (aM (gN rfl) rfl rfl rfl rfl rfl) rfl ?_)
    (refine nx (a_notnil (gN rfl) rfl rfl rfl rfl rfl rfl) rfl ?_)
    show AWp _ _ _ _ _ _ _
    refine aC rfl (fun h => by cases h) (fun _ => ?_)
    refine aK ?_
    show AWp _ _ _ _ _ _ _
    refine AWp.wk ((wk_not 0 rfl rfl).trans (wk_sub (s' := [(0, .val (.lst (L.map Bd.cv)))]) ⟨rfl, trivial⟩)) ?_
    refine aS (aR ?_)
    (refine nx (a_bslice0 (gN rfl) rfl rfl rfl rfl rfl rfl rfl rfl) rfl ?_)
    (refine nx (aM (gN rfl) rfl rfl rfl rfl rfl) rfl ?_)
    (refine nx (a_app0M 250007 (gN rfl) rfl rfl rfl rfl rfl rfl rfl rfl rfl rfl rfl rfl rfl rfl rfl (by first | assumption | exact sZ rfl | exact Tm.size_all _ | exact Bd.size_all _ | exact ints_size _ | exact bys_size _ | exact Lt.size_all _) (by first | omega | (simp only [List.length_map, List.length_append, List.length_cons, List.length_nil] <;> omega) | (simp <;> omega))) rfl ?_)
    (refine nx (aA (gN rfl) rfl rfl rfl rfl rfl) rfl ?_)
    show AWp _ _ _ _ _ _ _
    refine aT ⟨.inr rfl, _, Wk.refl _, ?_, rfl, trivial⟩
    show some (AV.sl _ _ _ _) = some (AV.sl _ _ _ _)
    rw [List.length_map]
    rfl

-- 
theorem stable_abs (cmp : Bd → Bd → Int) (fc : CV) (L : List Bd) (hn : L.length < 20) (hc : ∀ W x y, AFunW Tryz.prog W fc [x.cw, y.cw] (.val (.i (cmp x y)))) :
    AFunO Tryz.prog 182 [(400000, .mrow 112 3 (L.map Bd.cv))] [.sl 400000 0 L.length 3, .val (.i L.length), .val fc] (.tup []) [(400000, .mrow 112 3 ((isortN (ltC cmp) 0 (L.length - 1) 1 L).map Bd.cv))] := by
  refine afunO_of Tryz.func182 Tryz.ntmps182 rfl rfl rfl rfl rfl rfl ?_
  intro w U hU
  refine aS (aR ?_)
  (refine nx (aA (gN rfl) rfl rfl rfl rfl rfl) rfl ?_)
  show AWp _ _ _ _ _ _ _
  refine aS (aR ?_)
  (refine nx (aM (gN rfl) rfl rfl rfl rfl rfl) rfl ?_)
  (refine nx (aA (gN rfl) rfl rfl rfl rfl rfl) rfl ?_)
  (refine nx (aA (gN rfl) rfl rfl rfl rfl rfl) rfl ?_)
  show AWp _ _ _ _ _ _ _
  let st : AS := [(0, .sl 400000 0 L.length 3), (1, .val (.i L.length)), (2, .val fc), (6, .val (.i 20)), (7, .val (.i 0)), (8, .val (.i 20)), (400000, .mrow 112 3 (L.map Bd.cv))]
  refine aS (aB (awp_count 0 (fun k => st) (wk_sub ⟨rfl, rfl, rfl, rfl, rfl, rfl, rfl, trivial⟩) ?_))
  intro k hk
  refine aS (aS (aR ?_))
  (refine nx (aM (gN rfl) rfl rfl rfl rfl rfl) rfl ?_)
  (refine nx (aM (gN rfl) rfl rfl rfl rfl rfl) rfl ?_)
  (refine nx (a_leq (gN rfl) rfl rfl rfl rfl rfl rfl) rfl ?_)
  show AWp _ _ _ _ _ _ _
  refine aC rfl (fun h => ?_) (fun _ => ?_)
  · exfalso
    have h : decide ((20 : Int) ≤ (L.length : Int)) = true := h
    simp at h
    omega
  refine aE ?_
  show AWp _ _ _ _ _ _ _
  refine AWp.wk (wk_sub (s' := st) ⟨rfl, rfl, rfl, rfl, rfl, rfl, rfl, trivial⟩) ?_
  have hins := insSort_abs cmp fc L 0 L.length (by omega) (Nat.le_refl _) (by omega) hc
  rw [Nat.zero_add] at hins
  refine aS (aR ?_)
  (refine nx (aM (gN rfl) rfl rfl rfl rfl rfl) rfl ?_)
  (refine nx (aM (gN rfl) rfl rfl rfl rfl rfl) rfl ?_)
  (refine nx (aM (gN rfl) rfl rfl rfl rfl rfl) rfl ?_)
  (refine nx (aM (gN rfl) rfl rfl rfl rfl rfl) rfl ?_)
  (refine nx (a_callO (gN rfl) rfl rfl rfl rfl rfl (hins) (by repeat (first | exact trivial | refine ⟨rfl, ?_⟩)) (by first | rfl | kernel_rfl) (by first | rfl | kernel_rfl) (by first | rfl | kernel_rfl) (by first | rfl | kernel_rfl) (hnb_of (by first | rfl | kernel_rfl))) rfl ?_)
  show AWp _ _ _ _ _ _ _
  refine aB (awp_count 0 (fun k => [(1, .val (.i L.length)), (6, .val (.i 20)), (400000, .mrow 112 3 ((isortN (ltC cmp) 0 (L.length - 1) 1 L).map Bd.cv))]) (wk_sub ⟨rfl, rfl, rfl, trivial⟩) ?_)
  intro k hk
  refine aS (aS (aR ?_))
  (refine nx (aM (gN rfl) rfl rfl rfl rfl rfl) rfl ?_)
  (refine nx (aM (gN rfl) rfl rfl rfl rfl rfl) rfl ?_)
  (refine nx (a_lss (gN rfl) rfl rfl rfl rfl rfl rfl) rfl ?_)
  show AWp _ _ _ _ _ _ _
  refine aC rfl (fun h => ?_) (fun _ => ?_)
  · exfalso
    have h : decide ((20 : Int) < (L.length : Int)) = true := h
    simp at h
    omega
  refine aE ?_
  exact ⟨.inl rfl, _, Wk.refl _, rfl, rfl, trivial⟩
-- 
theorem sortStable_abs (cmp : Bd → Bd → Int) (fc : CV) (L : List Bd) (hn : L.length < 20) (hc : ∀ W x y, AFunW Tryz.prog W fc [x.cw, y.cw] (.val (.i (cmp x y)))) :
    AFunO Tryz.prog 177 [(400000, .mrow 112 3 (L.map Bd.cv))] [.sl 400000 0 L.length 3, .val fc] (.tup []) [(400000, .mrow 112 3 ((isortN (ltC cmp) 0 (L.length - 1) 1 L).map Bd.cv))] := by
  refine afunO_of Tryz.func177 Tryz.ntmps177 rfl rfl rfl rfl rfl rfl ?_
  intro w U hU
  have hst := stable_abs cmp fc L hn hc
  refine aR ?_
  (refine nx (aM (gN rfl) rfl rfl rfl rfl rfl) rfl ?_)
  (refine nx (aM (gN rfl) rfl rfl rfl rfl rfl) rfl ?_)
  (refine nx (a_lenM (gN rfl) rfl rfl rfl rfl rfl rfl rfl) rfl ?_)
  (refine nx (aM (gN rfl) rfl rfl rfl rfl rfl) rfl ?_)
  (refine nx (a_callO (gN rfl) rfl rfl rfl rfl rfl (hst) (by repeat (first | exact trivial | refine ⟨rfl, ?_⟩)) (by first | rfl | kernel_rfl) (by first | rfl | kernel_rfl) (by first | rfl | kernel_rfl) (by first | rfl | kernel_rfl) (hnb_of (by first | rfl | kernel_rfl))) rfl ?_)
  exact ⟨.inl rfl, _, Wk.refl _, rfl, rfl, trivial⟩

def idxB (q : Bd → Bool) : List Bd → Nat → Int
  | [], _ => -1
  | b :: l, i => if q b then (i : Int) else idxB q l (i + 1)
theorem idxB_none {q : Bd → Bool} : ∀ {l : List Bd} {i : Nat}, (∀ b ∈ l, q b = false) → idxB q l i = -1
  | [], _, _ => rfl
  | b :: l, i, h => by rw [idxB, h b (by simp), if_neg (by simp)]; exact idxB_none fun c hc => h c (List.mem_cons_of_mem _ hc)
theorem idxB_at {q : Bd → Bool} : ∀ {l : List Bd} {i k : Nat} {b : Bd}, l[k]? = some b → q b = true → (∀ j c, j < k → l[j]? = some c → q c = false) → idxB q l i = ((i + k : Nat) : Int)
  | [], _, _, _, h, _, _ => by simp at h
  | x :: l, i, 0, b, h, hq, _ => by simp at h; subst h; rw [idxB, if_pos hq]; rfl
  | x :: l, i, k + 1, b, h, hq, hf => by
    rw [idxB, hf 0 x (by omega) rfl, if_neg (by simp), idxB_at (k := k) (by simpa using h) hq fun j c hj hc => hf (j + 1) c (by omega) (by simpa using hc)]
    congr 1; omega
-- 
theorem indexF_abs (q : Bd → Bool) (fc : CV) (L : List Bd) (n : Nat) (hnl : n ≤ L.length) (hn : L.length ≤ 1000000000) (hc : ∀ W x, x ∈ L.take n → AFunW Tryz.prog W fc [x.cw] (.val (.b (q x)))) :
    AFunO Tryz.prog 175 [(400000, .mrow 112 3 (L.map Bd.cv))] [.sl 400000 0 n 3, .val fc] (.val (.i (idxB q (L.take n) 0))) [(400000, .mrow 112 3 (L.map Bd.cv))] := by
  refine afunO_of Tryz.func175 Tryz.ntmps175 rfl rfl rfl rfl rfl rfl ?_
  intro w U hU
  refine aS (aR ?_)
  (refine nx (aA (gN rfl) rfl rfl rfl rfl rfl) rfl ?_)
  show AWp _ _ _ _ _ _ _
  refine aS (aS (aR ?_))
  (refine nx (aM (gN rfl) rfl rfl rfl rfl rfl) rfl ?_)
  (refine nx (a_lenM (gN rfl) rfl rfl rfl rfl rfl rfl rfl) rfl ?_)
  (refine nx (aM (gN rfl) rfl rfl rfl rfl rfl) rfl ?_)
  show AWp _ _ _ _ _ _ _
  refine aB (awp_countI n (fun k => ∀ j c, j < k → (L.take n)[j]? = some c → q c = false) (fun k => [(0, .sl 400000 0 n 3), (1, .val fc), (7, .val (.i n)), (8, .val (.i k)), (400000, .mrow 112 3 (L.map Bd.cv))]) (wk_sub ⟨rfl, rfl, rfl, rfl, rfl, trivial⟩) (fun j c hj => by omega) ?_)
  intro k hk hI
  refine aS (aR ?_)
  (refine nx (a_lss (gN rfl) rfl rfl rfl rfl rfl rfl) rfl ?_)
  show AWp _ _ _ _ _ _ _
  refine aS (aC rfl (fun hlt => ?_) (fun hlt => ?_))
  · have hkl : k < n := by simpa using hlt
    obtain ⟨x, hx0⟩ : ∃ x, L[k]? = some x := ⟨L[k]'(by omega), List.getElem?_eq_getElem (by omega)⟩
    have hx : (L.take n)[k]? = some x := by rw [List.getElem?_take, if_pos hkl]; exact hx0
    have hx' := Bd.map_at hx0
    refine aK ?_
    show AWp _ _ _ _ _ _ _
    refine aS (aB (aS (aR ?_)))
    (refine nx (aM (gN rfl) rfl rfl rfl rfl rfl) rfl ?_)
    (refine nx (aA (gN rfl) rfl rfl rfl rfl rfl) rfl ?_)
    show AWp _ _ _ _ _ _ _
    refine aS (aR ?_)
    (refine nx (aM (gN rfl) rfl rfl rfl rfl rfl) rfl ?_)
    (refine nx (aM (gN rfl) rfl rfl rfl rfl rfl) rfl ?_)
    (refine nx (aM (gN rfl) rfl rfl rfl rfl rfl) rfl ?_)
    (refine nx (aIm (k := k) (gN rfl) rfl rfl rfl rfl rfl rfl rfl rfl rfl (by first | rfl | omega | (simp only [List.length_set, List.length_map, List.length_append, List.length_cons, List.length_nil] <;> omega) | (simp <;> omega))) rfl ?_)
    (refine nx (a_loadM (gN rfl) rfl rfl rfl rfl rfl rfl rfl rfl (hx') rfl (by first | rfl | omega | (simp only [List.length_set, List.length_map, List.length_append, List.length_cons, List.length_nil] <;> omega) | (simp <;> omega)) rfl rfl) rfl ?_)
    (refine nx (a_callw (gN rfl) rfl rfl rfl rfl rfl rfl (hc _ x (List.mem_of_getElem? hx))) rfl ?_)
    show AWp _ _ _ _ _ _ _
    refine aC rfl (fun hq => ?_) (fun hq => ?_)
    · refine aS (aR ?_)
      (refine nx (aM (gN rfl) rfl rfl rfl rfl rfl) rfl ?_)
      (refine nx (aA (gN rfl) rfl rfl rfl rfl rfl) rfl ?_)
      show AWp _ _ _ _ _ _ _
      refine aT ⟨.inr rfl, _, Wk.refl _, ?_, rfl, trivial⟩
      rw [idxB_at hx hq hI, Nat.zero_add]
      rfl
    · refine aK ?_
      show AWp _ _ _ _ _ _ _
      refine aR ?_
      (refine nx (a_add (gN rfl) rfl rfl rfl rfl rfl rfl (by first | omega | (simp only [List.length_map, List.length_append, List.length_cons, List.length_nil] <;> omega) | (simp <;> omega))) rfl ?_)
      (refine nx (aM (gN rfl) rfl rfl rfl rfl rfl) rfl ?_)
      refine ⟨hkl, fun j c hj hc => ?_, wk_sub ⟨rfl, rfl, rfl, rfl, rfl, trivial⟩⟩
      rcases Nat.lt_or_ge j k with h | h
      · exact hI j c h hc
      · have : j = k := by omega
        subst this
        rw [hx] at hc
        cases hc
        exact hq
  · have hkl : ¬ k < n := by simpa using hlt
    refine aE ?_
    show AWp _ _ _ _ _ _ _
    refine aS (aR ?_)
    (refine nx (aA (gN rfl) rfl rfl rfl rfl rfl) rfl ?_)
    show AWp _ _ _ _ _ _ _
    refine aT ⟨.inr rfl, _, Wk.refl _, ?_, rfl, trivial⟩
    rw [idxB_none fun b hb => ?_]
    · rfl
    · obtain ⟨j, hj⟩ := List.getElem?_of_mem hb
      have hjl : j < n := by
        rw [List.getElem?_take] at hj
        split at hj
        · assumption
        · cases hj
      exact hI j b (by omega) hj
def Bd.zero : Bd := ⟨0, ⟨0, []⟩⟩
def cptN (q : Bd → Bd → Bool) (L : List Bd) : Nat → List Bd
  | 0 => []
  | m + 1 => match L[m]?, (match m with | 0 => none | k + 1 => L[k]?) with
    | some x, some y => if q x y then cptN q L m else cptN q L m ++ [x]
    | some x, none => cptN q L m ++ [x]
    | none, _ => cptN q L m
theorem cptN_yes {q : Bd → Bd → Bool} {L : List Bd} {m : Nat} {x y : Bd} (hx : L[m + 1]? = some x) (hy : L[m]? = some y) (h : q x y = true) : cptN q L (m + 2) = cptN q L (m + 1) := by
  rw [cptN]; simp only [hx, hy, h, if_true]
theorem cptN_no {q : Bd → Bd → Bool} {L : List Bd} {m : Nat} {x y : Bd} (hx : L[m + 1]? = some x) (hy : L[m]? = some y) (h : q x y = false) : cptN q L (m + 2) = cptN q L (m + 1) ++ [x] := by
  rw [cptN]; simp [hx, hy, h]
theorem cptN_one {q : Bd → Bd → Bool} {L : List Bd} : cptN q L 1 = L.take 1 := by
  rw [cptN]
  cases L with
  | nil => rfl
  | cons x l => simp [cptN]
theorem take_snoc {α : Type} {l : List α} {k : Nat} {x : α} (h : l[k]? = some x) : l.take (k + 1) = l.take k ++ [x] := by
  rw [List.take_add_one, h]; rfl
theorem set_take {α : Type} {l : List α} {k : Nat} {x : α} (h : k < l.length) : (l.set k x).take (k + 1) = l.take k ++ [x] := by
  rw [take_snoc (x := x) (by simp [h]), List.take_set_of_le (Nat.le_refl _)]

-- 
theorem compact_abs (q : Bd → Bd → Bool) (fc : CV) (L : List Bd) (hn : L.length ≤ 1000000000) (hc : ∀ W x y, AFunW Tryz.prog W fc [x.cw, y.cw] (.val (.b (q x y)))) :
    AFunO Tryz.prog 179 [(400000, .mrow 112 3 (L.map Bd.cv))] [.sl 400000 0 L.length 3, .val fc] (.sl 400000 0 (cptN q L L.length).length 3) [(400000, .mrow 112 3 ((cptN q L L.length ++ List.replicate (L.length - (cptN q L L.length).length) Bd.zero).map Bd.cv))] := by
  refine afunO_of Tryz.func179 Tryz.ntmps179 rfl rfl rfl rfl rfl rfl ?_
  intro w U hU
  have hwhole : cptN q L L.length = L → (cptN q L L.length).length = L.length ∧ (cptN q L L.length ++ List.replicate (L.length - (cptN q L L.length).length) Bd.zero) = L := fun h => by rw [h]; simp
  refine aS (aR ?_)
  (refine nx (aA (gN rfl) rfl rfl rfl rfl rfl) rfl ?_)
  show AWp _ _ _ _ _ _ _
  refine aS (aS (aR ?_))
  (refine nx (aM (gN rfl) rfl rfl rfl rfl rfl) rfl ?_)
  (refine nx (a_lenM (gN rfl) rfl rfl rfl rfl rfl rfl rfl) rfl ?_)
  (refine nx (a_lss (gN rfl) rfl rfl rfl rfl rfl rfl) rfl ?_)
  show AWp _ _ _ _ _ _ _
  refine aC rfl (fun h2 => ?_) (fun h2 => ?_)
  · have h2 : L.length < 2 := by have h2 : decide ((L.length : Int) < 2) = true := h2; simp at h2; omega
    have hw := hwhole (by
      match L, h2 with
      | [], _ => rfl
      | [x], _ => rfl)
    refine aS (aR ?_)
    (refine nx (aM (gN rfl) rfl rfl rfl rfl rfl) rfl ?_)
    (refine nx (aA (gN rfl) rfl rfl rfl rfl rfl) rfl ?_)
    show AWp _ _ _ _ _ _ _
    refine aT ⟨.inr rfl, _, Wk.refl _, ?_, ?_, trivial⟩
    · rw [hw.1]; rfl
    · rw [hw.2]; rfl
  · have h2 : 2 ≤ L.length := by have h2 : decide ((L.length : Int) < 2) = false := h2; simp at h2; omega
    refine aK ?_
    show AWp _ _ _ _ _ _ _
    refine aS (aS (aR ?_))
    (refine nx (aA (gN rfl) rfl rfl rfl rfl rfl) rfl ?_)
    show AWp _ _ _ _ _ _ _
    let st : Nat → AS := fun k => [(0, .sl 400000 0 L.length 3), (1, .val fc), (5, .val (.i ((k + 1 : Nat) : Int))), (400000, .mrow 112 3 (L.map Bd.cv))]
    refine aB (awp_countI L.length (fun k => k + 1 ≤ L.length ∧ cptN q L (k + 1) = L.take (k + 1)) st (wk_sub ⟨rfl, rfl, rfl, rfl, trivial⟩) ⟨by omega, cptN_one⟩ ?_)
    rintro k hk ⟨hk1, hI⟩
    refine aS (aS (aR ?_))
    (refine nx (aM (gN rfl) rfl rfl rfl rfl rfl) rfl ?_)
    (refine nx (aM (gN rfl) rfl rfl rfl rfl rfl) rfl ?_)
    (refine nx (a_lenM (gN rfl) rfl rfl rfl rfl rfl rfl rfl) rfl ?_)
    (refine nx (a_lss (gN rfl) rfl rfl rfl rfl rfl rfl) rfl ?_)
    show AWp _ _ _ _ _ _ _
    refine aC rfl (fun hlt => ?_) (fun hlt => ?_)
    · have hkl : k + 1 < L.length := by have h3 : decide ((((k + 1 : Nat) : Int)) < (L.length : Int)) = true := hlt; simp at h3; omega
      obtain ⟨x, hx⟩ : ∃ x, L[k + 1]? = some x := ⟨L[k + 1], List.getElem?_eq_getElem hkl⟩
      obtain ⟨y, hy⟩ : ∃ y, L[k]? = some y := ⟨L[k]'(by omega), List.getElem?_eq_getElem (by omega)⟩
      have hx' := Bd.map_at hx
      have hy' := Bd.map_at hy
      refine aK ?_
      show AWp _ _ _ _ _ _ _
      refine aS (aB (aS (aD (by kernel_rfl) (by kernel_rfl) ?_)))
      (refine nx (aM (gN rfl) rfl rfl rfl rfl rfl) rfl ?_)
      (refine nx (aM (gN rfl) rfl rfl rfl rfl rfl) rfl ?_)
      (refine nx (aM (gN rfl) rfl rfl rfl rfl rfl) rfl ?_)
      (refine nx (aIm (k := k + 1) (gN rfl) rfl rfl rfl rfl rfl rfl rfl rfl rfl (by first | rfl | omega | (simp only [List.length_set, List.length_map, List.length_append, List.length_cons, List.length_nil] <;> omega) | (simp <;> omega))) rfl ?_)
      (refine nx (a_loadM (gN rfl) rfl rfl rfl rfl rfl rfl rfl rfl (hx') rfl (by first | rfl | omega | (simp only [List.length_set, List.length_map, List.length_append, List.length_cons, List.length_nil] <;> omega) | (simp <;> omega)) rfl rfl) rfl ?_)
      (refine nx (aM (gN rfl) rfl rfl rfl rfl rfl) rfl ?_)
      (refine nx (aM (gN rfl) rfl rfl rfl rfl rfl) rfl ?_)
      (refine nx (a_sub (gN rfl) rfl rfl rfl rfl rfl rfl (by first | omega | (simp only [List.length_map, List.length_append, List.length_cons, List.length_nil] <;> omega) | (simp <;> omega))) rfl ?_)
      (refine nx (aIm (k := k) (gN rfl) rfl rfl rfl rfl rfl rfl rfl rfl rfl (by first | rfl | omega | (simp only [List.length_set, List.length_map, List.length_append, List.length_cons, List.length_nil] <;> omega) | (simp <;> omega))) rfl ?_)
      (refine nx (a_loadM (gN rfl) rfl rfl rfl rfl rfl rfl rfl rfl (hy') rfl (by first | rfl | omega | (simp only [List.length_set, List.length_map, List.length_append, List.length_cons, List.length_nil] <;> omega) | (simp <;> omega)) rfl rfl) rfl ?_)
      (refine nx (a_callw (gN rfl) rfl rfl rfl rfl rfl rfl (hc _ x y)) rfl ?_)
      refine ⟨by kernel_rfl, ?_⟩
      show AWp _ _ _ _ _ _ _
      refine aC rfl (fun hq => ?_) (fun hq => ?_)
      · have hq : q x y = true := hq
        refine AWp.wk (wk_sub (s' := st k) ⟨rfl, rfl, rfl, rfl, trivial⟩) ?_
        refine aS (aR ?_)
        (refine nx (aM (gN rfl) rfl rfl rfl rfl rfl) rfl ?_)
        (refine nx (aM (gN rfl) rfl rfl rfl rfl rfl) rfl ?_)
        (refine nx (a_fromM (j := k + 1) (gN rfl) rfl rfl rfl rfl rfl rfl rfl rfl (by first | rfl | omega | (simp only [List.length_set, List.length_map, List.length_append, List.length_cons, List.length_nil] <;> omega) | (simp <;> omega)) (by first | rfl | omega | (simp only [List.length_set, List.length_map, List.length_append, List.length_cons, List.length_nil] <;> omega) | (simp <;> omega))) rfl ?_)
        (refine nx (aA (gN rfl) rfl rfl rfl rfl rfl) rfl ?_)
        show AWp _ _ _ _ _ _ _
        refine aS (aS (aR ?_))
        (refine nx (aA (gN rfl) rfl rfl rfl rfl rfl) rfl ?_)
        show AWp _ _ _ _ _ _ _
        let st2 : Nat → Nat → List Bd → AS := fun j kk C => [(0, .sl 400000 0 L.length 3), (1, .val fc), (5, .val (.i kk)), (6, .sl 400000 (0 + (k + 1)) (L.length - (k + 1)) 3), (7, .val (.i ((j + 1 : Nat) : Int))), (400000, .mrow 112 3 (C.map Bd.cv))]
        have h0 : cptN q L (k + 2) = L.take (k + 1) := by rw [cptN_yes hx hy hq, hI]
        refine aB (awp_loop (fun m s => ∃ j kk C, m = L.length - j ∧ k + 1 + (j + 1) ≤ L.length ∧ kk ≤ k + 1 + j ∧ C.length = L.length ∧ C.take kk = cptN q L (k + 1 + (j + 1)) ∧ (∀ i, k + 1 + j ≤ i → C[i]? = L[i]?) ∧ s = st2 j kk C) (s' := st2 0 (k + 1) L) (wk_sub ⟨rfl, rfl, rfl, rfl, rfl, rfl, trivial⟩) ⟨0, k + 1, L, rfl, by omega, by omega, rfl, h0.symm, fun _ _ => rfl, rfl⟩ ?_)
        rintro m s ⟨j, kk, C, hm, hj1, hj2, hC, hI1, hI2, rfl⟩
        refine aS (aS (aR ?_))
        (refine nx (aM (gN rfl) rfl rfl rfl rfl rfl) rfl ?_)
        (refine nx (aM (gN rfl) rfl rfl rfl rfl rfl) rfl ?_)
        (refine nx (a_lenM (gN rfl) rfl rfl rfl rfl rfl rfl rfl) rfl ?_)
        (refine nx (a_lss (gN rfl) rfl rfl rfl rfl rfl rfl) rfl ?_)
        show AWp _ _ _ _ _ _ _
        refine aC rfl (fun hlt2 => ?_) (fun hlt2 => ?_)
        · have hjl : k + 1 + (j + 1) < L.length := by have h3 : decide ((((j + 1 : Nat) : Int)) < ((L.length - (k + 1) : Nat) : Int)) = true := hlt2; simp at h3; omega
          obtain ⟨x2, hx2⟩ : ∃ x, L[k + 1 + (j + 1)]? = some x := ⟨L[k + 1 + (j + 1)], List.getElem?_eq_getElem hjl⟩
          obtain ⟨y2, hy2⟩ : ∃ y, L[k + 1 + j]? = some y := ⟨L[k + 1 + j]'(by omega), List.getElem?_eq_getElem (by omega)⟩
          have hx2' := Bd.map_at ((hI2 _ (by omega)).trans hx2)
          have hy2' := Bd.map_at ((hI2 _ (by omega)).trans hy2)
          refine aK ?_
          show AWp _ _ _ _ _ _ _
          refine aS (aB (aS (aD (by kernel_rfl) (by kernel_rfl) ?_)))
          (refine nx (aM (gN rfl) rfl rfl rfl rfl rfl) rfl ?_)
          (refine nx (aM (gN rfl) rfl rfl rfl rfl rfl) rfl ?_)
          (refine nx (aM (gN rfl) rfl rfl rfl rfl rfl) rfl ?_)
          (refine nx (aIm (k := k + 1 + (j + 1)) (gN rfl) rfl rfl rfl rfl rfl rfl rfl rfl rfl (by first | rfl | omega | (simp only [List.length_set, List.length_map, List.length_append, List.length_cons, List.length_nil] <;> omega) | (simp <;> omega))) rfl ?_)
          (refine nx (a_loadM (gN rfl) rfl rfl rfl rfl rfl rfl rfl rfl (hx2') rfl (by first | rfl | omega | (simp only [List.length_set, List.length_map, List.length_append, List.length_cons, List.length_nil] <;> omega) | (simp <;> omega)) rfl rfl) rfl ?_)
          (refine nx (aM (gN rfl) rfl rfl rfl rfl rfl) rfl ?_)
          (refine nx (aM (gN rfl) rfl rfl rfl rfl rfl) rfl ?_)
          (refine nx (a_sub (gN rfl) rfl rfl rfl rfl rfl rfl (by first | omega | (simp only [List.length_map, List.length_append, List.length_cons, List.length_nil] <;> omega) | (simp <;> omega))) rfl ?_)
          (refine nx (aIm (k := k + 1 + j) (gN rfl) rfl rfl rfl rfl rfl rfl rfl rfl rfl (by first | rfl | omega | (simp only [List.length_set, List.length_map, List.length_append, List.length_cons, List.length_nil] <;> omega) | (simp <;> omega))) rfl ?_)
          (refine nx (a_loadM (gN rfl) rfl rfl rfl rfl rfl rfl rfl rfl (hy2') rfl (by first | rfl | omega | (simp only [List.length_set, List.length_map, List.length_append, List.length_cons, List.length_nil] <;> omega) | (simp <;> omega)) rfl rfl) rfl ?_)
          (refine nx (a_callw (gN rfl) rfl rfl rfl rfl rfl rfl (hc _ x2 y2)) rfl ?_)
          (refine nx (a_not (gN rfl) rfl rfl rfl rfl rfl) rfl ?_)
          refine ⟨by kernel_rfl, ?_⟩
          show AWp _ _ _ _ _ _ _
          refine aC rfl (fun hq2 => ?_) (fun hq2 => ?_)
          · have hq2 : q x2 y2 = false := by simpa using hq2
            refine AWp.wk (wk_sub (s' := st2 j kk C) ⟨rfl, rfl, rfl, rfl, rfl, rfl, trivial⟩) ?_
            obtain ⟨z2, hz2⟩ : ∃ z, C[kk]? = some z := ⟨C[kk]'(by omega), List.getElem?_eq_getElem (by omega)⟩
            have hz2' := Bd.map_at hz2
            refine aS (aR ?_)
            (refine nx (aM (gN rfl) rfl rfl rfl rfl rfl) rfl ?_)
            (refine nx (aM (gN rfl) rfl rfl rfl rfl rfl) rfl ?_)
            (refine nx (aM (gN rfl) rfl rfl rfl rfl rfl) rfl ?_)
            (refine nx (aM (gN rfl) rfl rfl rfl rfl rfl) rfl ?_)
            (refine nx (aIm (k := k + 1 + (j + 1)) (gN rfl) rfl rfl rfl rfl rfl rfl rfl rfl rfl (by first | rfl | omega | (simp only [List.length_set, List.length_map, List.length_append, List.length_cons, List.length_nil] <;> omega) | (simp <;> omega))) rfl ?_)
            (refine nx (a_loadM (gN rfl) rfl rfl rfl rfl rfl rfl rfl rfl (hx2') rfl (by first | rfl | omega | (simp only [List.length_set, List.length_map, List.length_append, List.length_cons, List.length_nil] <;> omega) | (simp <;> omega)) rfl rfl) rfl ?_)
            (refine nx (aIm (k := kk) (gN rfl) rfl rfl rfl rfl rfl rfl rfl rfl rfl (by first | rfl | omega | (simp only [List.length_set, List.length_map, List.length_append, List.length_cons, List.length_nil] <;> omega) | (simp <;> omega))) rfl ?_)
            (refine nx (a_storeM (gN rfl) rfl rfl rfl rfl rfl rfl (hz2') rfl rfl (by first | rfl | omega | (simp only [List.length_set, List.length_map, List.length_append, List.length_cons, List.length_nil] <;> omega) | (simp <;> omega)) rfl) rfl ?_)
            show AWp _ _ _ _ _ _ _
            refine aR ?_
            (refine nx (aM (gN rfl) rfl rfl rfl rfl rfl) rfl ?_)
            (refine nx (a_add (gN rfl) rfl rfl rfl rfl rfl rfl (by first | omega | (simp only [List.length_map, List.length_append, List.length_cons, List.length_nil] <;> omega) | (simp <;> omega))) rfl ?_)
            (refine nx (aA (gN rfl) rfl rfl rfl rfl rfl) rfl ?_)
            show AWp _ _ _ _ _ _ _
            refine aR ?_
            (refine nx (aM (gN rfl) rfl rfl rfl rfl rfl) rfl ?_)
            (refine nx (a_add (gN rfl) rfl rfl rfl rfl rfl rfl (by first | omega | (simp only [List.length_map, List.length_append, List.length_cons, List.length_nil] <;> omega) | (simp <;> omega))) rfl ?_)
            (refine nx (aA (gN rfl) rfl rfl rfl rfl rfl) rfl ?_)
            refine ⟨L.length - (j + 1), st2 (j + 1) (kk + 1) (C.set kk x2), by omega, ⟨j + 1, kk + 1, C.set kk x2, rfl, by omega, by omega, by simp [hC], ?_, fun i hi => ?_, rfl⟩, wk_sub ⟨rfl, rfl, rfl, rfl, rfl, ?_, trivial⟩⟩
            · rw [set_take (by omega), hI1, show k + 1 + (j + 1 + 1) = (k + 1 + j) + 2 by omega, cptN_no (m := k + 1 + j) hx2 hy2 hq2]; rfl
            · rw [List.getElem?_set_ne (by omega)]; exact hI2 i (by omega)
            · show some (AV.mrow _ _ _) = some (AV.mrow _ _ _)
              rw [set_map_cv]
          · have hq2 : q x2 y2 = true := by simpa using hq2
            refine aK ?_
            show AWp _ _ _ _ _ _ _
            refine AWp.wk (wk_sub (s' := st2 j kk C) ⟨rfl, rfl, rfl, rfl, rfl, rfl, trivial⟩) ?_
            refine aR ?_
            (refine nx (aM (gN rfl) rfl rfl rfl rfl rfl) rfl ?_)
            (refine nx (a_add (gN rfl) rfl rfl rfl rfl rfl rfl (by first | omega | (simp only [List.length_map, List.length_append, List.length_cons, List.length_nil] <;> omega) | (simp <;> omega))) rfl ?_)
            (refine nx (aA (gN rfl) rfl rfl rfl rfl rfl) rfl ?_)
            refine ⟨L.length - (j + 1), st2 (j + 1) kk C, by omega, ⟨j + 1, kk, C, rfl, by omega, by omega, hC, ?_, fun i hi => hI2 i (by omega), rfl⟩, wk_sub ⟨rfl, rfl, rfl, rfl, rfl, rfl, trivial⟩⟩
            rw [hI1, show k + 1 + (j + 1 + 1) = (k + 1 + j) + 2 by omega, cptN_yes (m := k + 1 + j) hx2 hy2 hq2]; rfl
        · have hjl : k + 1 + (j + 1) = L.length := by have h3 : decide ((((j + 1 : Nat) : Int)) < ((L.length - (k + 1) : Nat) : Int)) = false := hlt2; simp at h3; omega
          refine aE ?_
          show AWp _ _ _ _ _ _ _
          refine AWp.wk (wk_sub (s' := st2 j kk C) ⟨rfl, rfl, rfl, rfl, rfl, rfl, trivial⟩) ?_
          refine aS (aR ?_)
          (refine nx (aM (gN rfl) rfl rfl rfl rfl rfl) rfl ?_)
          (refine nx (aM (gN rfl) rfl rfl rfl rfl rfl) rfl ?_)
          (refine nx (a_fromM (j := kk) (gN rfl) rfl rfl rfl rfl rfl rfl rfl rfl (by first | rfl | omega | (simp only [List.length_set, List.length_map, List.length_append, List.length_cons, List.length_nil] <;> omega) | (simp <;> omega)) (by first | rfl | omega | (simp only [List.length_set, List.length_map, List.length_append, List.length_cons, List.length_nil] <;> omega) | (simp <;> omega))) rfl ?_)
          (refine nx (a_clearM (gN rfl) rfl rfl rfl rfl rfl rfl rfl rfl (by first | rfl | omega | (simp only [List.length_set, List.length_map, List.length_append, List.length_cons, List.length_nil] <;> omega) | (simp <;> omega))) rfl ?_)
          show AWp _ _ _ _ _ _ _
          refine aS (aR ?_)
          (refine nx (aM (gN rfl) rfl rfl rfl rfl rfl) rfl ?_)
          (refine nx (aM (gN rfl) rfl rfl rfl rfl rfl) rfl ?_)
          (refine nx (a_uptoM (j := kk) (gN rfl) rfl rfl rfl rfl rfl rfl rfl rfl (by first | rfl | omega | (simp only [List.length_set, List.length_map, List.length_append, List.length_cons, List.length_nil] <;> omega) | (simp <;> omega)) (by first | rfl | omega | (simp only [List.length_set, List.length_map, List.length_append, List.length_cons, List.length_nil] <;> omega) | (simp <;> omega))) rfl ?_)
          (refine nx (aA (gN rfl) rfl rfl rfl rfl rfl) rfl ?_)
          show AWp _ _ _ _ _ _ _
          rw [hjl] at hI1
          have hkk : kk = (cptN q L L.length).length := by rw [← hI1]; simp; omega
          refine aT ⟨.inr rfl, _, Wk.refl _, ?_, ?_, trivial⟩
          · rw [← hkk]; rfl
          · show some (AV.mrow _ _ _) = some (AV.mrow _ _ _)
            rw [← hkk, ← hI1, List.map_append, ← List.map_take, List.map_replicate]
            simp only [Nat.zero_add]
            rw [show kk + (L.length - kk) = (C.map Bd.cv).length by simp; omega, List.drop_length, List.append_nil]
            rfl
      · have hq : q x y = false := hq
        refine aK ?_
        show AWp _ _ _ _ _ _ _
        refine AWp.wk (wk_sub (s' := st k) ⟨rfl, rfl, rfl, rfl, trivial⟩) ?_
        refine aR ?_
        (refine nx (aM (gN rfl) rfl rfl rfl rfl rfl) rfl ?_)
        (refine nx (a_add (gN rfl) rfl rfl rfl rfl rfl rfl (by first | omega | (simp only [List.length_map, List.length_append, List.length_cons, List.length_nil] <;> omega) | (simp <;> omega))) rfl ?_)
        (refine nx (aA (gN rfl) rfl rfl rfl rfl rfl) rfl ?_)
        refine ⟨by omega, ⟨by omega, ?_⟩, wk_sub ⟨rfl, rfl, rfl, rfl, trivial⟩⟩
        rw [cptN_no hx hy hq, hI, take_snoc hx]
    · have hkl : k + 1 = L.length := by have h3 : decide ((((k + 1 : Nat) : Int)) < (L.length : Int)) = false := hlt; simp at h3; omega
      refine aE ?_
      show AWp _ _ _ _ _ _ _
      rw [hkl, List.take_length] at hI
      have hw := hwhole hI
      refine aS (aR ?_)
      (refine nx (aM (gN rfl) rfl rfl rfl rfl rfl) rfl ?_)
      (refine nx (aA (gN rfl) rfl rfl rfl rfl rfl) rfl ?_)
      show AWp _ _ _ _ _ _ _
      refine aT ⟨.inr rfl, _, Wk.refl _, ?_, ?_, trivial⟩
      · rw [hw.1]; rfl
      · rw [hw.2]; rfl

theorem idxB_cases (q : Bd → Bool) (L : List Bd) : (idxB q L 0 = -1 ∧ L.filter (fun b => !q b) = L) ∨ ∃ (i : Nat) (b : Bd), idxB q L 0 = (i : Int) ∧ L[i]? = some b ∧ q b = true ∧ (L.take (i + 1)).filter (fun b => !q b) = L.take i := by
  by_cases h : ∃ b ∈ L, q b = true
  · right
    obtain ⟨k, hk, hmin⟩ := least (fun k => ∃ b, L[k]? = some b ∧ q b = true) (by
      obtain ⟨b, hb, hq⟩ := h
      obtain ⟨j, hj⟩ := List.getElem?_of_mem hb
      exact ⟨j, b, hj, hq⟩)
    obtain ⟨b, hb, hq⟩ := hk
    have hf : ∀ j c, j < k → L[j]? = some c → q c = false := fun j c hj hc => by
      cases hqc : q c with
      | false => rfl
      | true => have := hmin j ⟨c, hc, hqc⟩; omega
    refine ⟨k, b, by rw [idxB_at hb hq hf, Nat.zero_add], hb, hq, ?_⟩
    rw [take_snoc hb, List.filter_append]
    have e1 : (L.take k).filter (fun b => !q b) = L.take k := by
      rw [List.filter_eq_self]
      intro c hc
      obtain ⟨j, hj⟩ := List.getElem?_of_mem hc
      rw [List.getElem?_take] at hj
      split at hj
      · rename_i hjk
        rw [hf j c hjk hj]; rfl
      · cases hj
    rw [e1]
    simp [hq]
  · left
    have hf : ∀ b ∈ L, q b = false := fun b hb => by
      cases hqc : q b with
      | false => rfl
      | true => exact absurd ⟨b, hb, hqc⟩ h
    refine ⟨idxB_none hf, ?_⟩
    rw [List.filter_eq_self]
    intro c hc
    rw [hf c hc]; rfl

-- 
theorem delete_abs (q : Bd → Bool) (fc : CV) (L : List Bd) (n : Nat) (hnl : n ≤ L.length) (hn : L.length ≤ 1000000000) (hc : ∀ W x, x ∈ L.take n → AFunW Tryz.prog W fc [x.cw] (.val (.b (q x)))) :
    AFunO Tryz.prog 158 [(400000, .mrow 112 3 (L.map Bd.cv))] [.sl 400000 0 n 3, .val fc] (.sl 400000 0 ((L.take n).filter (fun b => !q b)).length 3) [(400000, .mrow 112 3 (((L.take n).filter (fun b => !q b) ++ (List.replicate (n - ((L.take n).filter (fun b => !q b)).length) Bd.zero ++ L.drop n)).map Bd.cv))] := by
  refine afunO_of Tryz.func158 Tryz.ntmps158 rfl rfl rfl rfl rfl rfl ?_
  intro w U hU
  obtain ⟨R, hR⟩ : ∃ R, R = (L.take n).filter (fun b => !q b) := ⟨_, rfl⟩
  rw [← hR]
  have hidx := indexF_abs q fc L n hnl hn hc
  refine aS (aR ?_)
  (refine nx (aA (gN rfl) rfl rfl rfl rfl rfl) rfl ?_)
  show AWp _ _ _ _ _ _ _
  refine aS (aR ?_)
  (refine nx (aM (gN rfl) rfl rfl rfl rfl rfl) rfl ?_)
  (refine nx (aM (gN rfl) rfl rfl rfl rfl rfl) rfl ?_)
  (refine nx (a_callO (gN rfl) rfl rfl rfl rfl rfl (hidx) (by repeat (first | exact trivial | refine ⟨rfl, ?_⟩)) (by first | rfl | kernel_rfl) (by first | rfl | kernel_rfl) (by first | rfl | kernel_rfl) (by first | rfl | kernel_rfl) (hnb_of (by first | rfl | kernel_rfl))) rfl ?_)
  (refine nx (aA (gN rfl) rfl rfl rfl rfl rfl) rfl ?_)
  show AWp _ _ _ _ _ _ _
  refine aS (aS (aR ?_))
  (refine nx (aM (gN rfl) rfl rfl rfl rfl rfl) rfl ?_)
  (refine nx (a_eql (gN rfl) rfl rfl rfl rfl rfl rfl) rfl ?_)
  show AWp _ _ _ _ _ _ _
  rcases idxB_cases q (L.take n) with ⟨hi, hf⟩ | ⟨i, b, hi, hb, hqb, hf⟩
  · rw [← hR] at hf
    have hl : R.length = n := by rw [hf]; simp; omega
    refine aC rfl (fun _ => ?_) (fun h => ?_)
    · refine aS (aR ?_)
      (refine nx (aM (gN rfl) rfl rfl rfl rfl rfl) rfl ?_)
      (refine nx (aA (gN rfl) rfl rfl rfl rfl rfl) rfl ?_)
      show AWp _ _ _ _ _ _ _
      refine aT ⟨.inr rfl, _, Wk.refl _, ?_, ?_, trivial⟩
      · rw [hl]; rfl
      · rw [hl, Nat.sub_self, List.replicate_zero, List.nil_append, hf, List.take_append_drop]; rfl
    · have h : decide (idxB q (L.take n) 0 = -1) = false := h
      rw [hi] at h
      cases h
  · have hin : i < n := by
      rw [List.getElem?_take] at hb
      split at hb
      · assumption
      · cases hb
    rw [List.take_take, Nat.min_eq_left (by omega), List.take_take, Nat.min_eq_left (by omega)] at hf
    refine aC rfl (fun h => ?_) (fun _ => ?_)
    · have h : decide (idxB q (L.take n) 0 = -1) = true := h
      rw [hi] at h
      simp at h
    refine aK ?_
    show AWp _ _ _ _ _ _ _
    refine AWp.wk (wk_sub (s' := [(0, .sl 400000 0 n 3), (1, .val fc), (5, .val (.i i)), (400000, .mrow 112 3 (L.map Bd.cv))]) ⟨rfl, rfl, by rw [← hi]; rfl, rfl, trivial⟩) ?_
    refine aS (aS (aR ?_))
    (refine nx (aM (gN rfl) rfl rfl rfl rfl rfl) rfl ?_)
    (refine nx (a_add (gN rfl) rfl rfl rfl rfl rfl rfl (by first | omega | (simp only [List.length_map, List.length_append, List.length_cons, List.length_nil] <;> omega) | (simp <;> omega))) rfl ?_)
    (refine nx (aA (gN rfl) rfl rfl rfl rfl rfl) rfl ?_)
    show AWp _ _ _ _ _ _ _
    let st : Nat → Nat → List Bd → AS := fun j ii C => [(0, .sl 400000 0 n 3), (1, .val fc), (5, .val (.i ii)), (6, .val (.i ((j + 1 : Nat) : Int))), (400000, .mrow 112 3 (C.map Bd.cv))]
    refine aB (awp_loop (fun m s => ∃ j ii C, m = n - j ∧ j + 1 ≤ n ∧ ii ≤ j ∧ C.length = L.length ∧ C.take ii = (L.take (j + 1)).filter (fun b => !q b) ∧ (∀ p, j + 1 ≤ p → C[p]? = L[p]?) ∧ s = st j ii C) (s' := st i i L) (wk_sub ⟨rfl, rfl, rfl, rfl, rfl, trivial⟩) ⟨i, i, L, rfl, by omega, Nat.le_refl _, rfl, hf.symm, fun _ _ => rfl, rfl⟩ ?_)
    rintro m s ⟨j, ii, C, hm, hj1, hj2, hC, hI1, hI2, rfl⟩
    refine aS (aS (aR ?_))
    (refine nx (aM (gN rfl) rfl rfl rfl rfl rfl) rfl ?_)
    (refine nx (aM (gN rfl) rfl rfl rfl rfl rfl) rfl ?_)
    (refine nx (a_lenM (gN rfl) rfl rfl rfl rfl rfl rfl rfl) rfl ?_)
    (refine nx (a_lss (gN rfl) rfl rfl rfl rfl rfl rfl) rfl ?_)
    show AWp _ _ _ _ _ _ _
    refine aC rfl (fun hlt => ?_) (fun hlt => ?_)
    · have hjl : j + 1 < n := by have h3 : decide ((((j + 1 : Nat) : Int)) < (n : Int)) = true := hlt; simp at h3; omega
      obtain ⟨x, hx⟩ : ∃ x, L[j + 1]? = some x := ⟨L[j + 1]'(by omega), List.getElem?_eq_getElem (by omega)⟩
      have hx' := Bd.map_at ((hI2 _ (by omega)).trans hx)
      have hxm : x ∈ L.take n := List.mem_of_getElem? (i := j + 1) (by rw [List.getElem?_take, if_pos hjl]; exact hx)
      refine aK ?_
      show AWp _ _ _ _ _ _ _
      refine aS (aB (aS (aR ?_)))
      (refine nx (aM (gN rfl) rfl rfl rfl rfl rfl) rfl ?_)
      (refine nx (aM (gN rfl) rfl rfl rfl rfl rfl) rfl ?_)
      (refine nx (aIm (k := j + 1) (gN rfl) rfl rfl rfl rfl rfl rfl rfl rfl rfl (by first | rfl | omega | (simp only [List.length_set, List.length_map, List.length_append, List.length_cons, List.length_nil] <;> omega) | (simp <;> omega))) rfl ?_)
      (refine nx (a_loadM (gN rfl) rfl rfl rfl rfl rfl rfl rfl rfl (hx') rfl (by first | rfl | omega | (simp only [List.length_set, List.length_map, List.length_append, List.length_cons, List.length_nil] <;> omega) | (simp <;> omega)) rfl rfl) rfl ?_)
      (refine nx (a_alloc (gN rfl) rfl rfl rfl rfl rfl rfl rfl rfl rfl rfl) rfl ?_)
      (refine nx (aSt (gN rfl) rfl rfl rfl rfl rfl rfl rfl rfl rfl rfl) rfl ?_)
      show AWp _ _ _ _ _ _ _
      refine aS (aR ?_)
      (refine nx (aM (gN rfl) rfl rfl rfl rfl rfl) rfl ?_)
      (refine nx (aL (gN rfl) rfl rfl rfl rfl rfl rfl rfl rfl rfl rfl rfl rfl) rfl ?_)
      (refine nx (a_callw (gN rfl) rfl rfl rfl rfl rfl rfl (hc _ x hxm)) rfl ?_)
      (refine nx (a_not (gN rfl) rfl rfl rfl rfl rfl) rfl ?_)
      show AWp _ _ _ _ _ _ _
      refine aC rfl (fun hq => ?_) (fun hq => ?_)
      · have hq : q x = false := by simpa using hq
        obtain ⟨z, hz⟩ : ∃ z, C[ii]? = some z := ⟨C[ii]'(by omega), List.getElem?_eq_getElem (by omega)⟩
        have hz' := Bd.map_at hz
        refine aS (aR ?_)
        (refine nx (aM (gN rfl) rfl rfl rfl rfl rfl) rfl ?_)
        (refine nx (aM (gN rfl) rfl rfl rfl rfl rfl) rfl ?_)
        (refine nx (aL (gN rfl) rfl rfl rfl rfl rfl rfl rfl rfl rfl rfl rfl rfl) rfl ?_)
        (refine nx (aIm (k := ii) (gN rfl) rfl rfl rfl rfl rfl rfl rfl rfl rfl (by first | rfl | omega | (simp only [List.length_set, List.length_map, List.length_append, List.length_cons, List.length_nil] <;> omega) | (simp <;> omega))) rfl ?_)
        (refine nx (a_storeM (gN rfl) rfl rfl rfl rfl rfl rfl (hz') rfl rfl (by first | rfl | omega | (simp only [List.length_set, List.length_map, List.length_append, List.length_cons, List.length_nil] <;> omega) | (simp <;> omega)) rfl) rfl ?_)
        show AWp _ _ _ _ _ _ _
        refine aR ?_
        (refine nx (aM (gN rfl) rfl rfl rfl rfl rfl) rfl ?_)
        (refine nx (a_add (gN rfl) rfl rfl rfl rfl rfl rfl (by first | omega | (simp only [List.length_map, List.length_append, List.length_cons, List.length_nil] <;> omega) | (simp <;> omega))) rfl ?_)
        (refine nx (aA (gN rfl) rfl rfl rfl rfl rfl) rfl ?_)
        show AWp _ _ _ _ _ _ _
        refine aR ?_
        (refine nx (aM (gN rfl) rfl rfl rfl rfl rfl) rfl ?_)
        (refine nx (a_add (gN rfl) rfl rfl rfl rfl rfl rfl (by first | omega | (simp only [List.length_map, List.length_append, List.length_cons, List.length_nil] <;> omega) | (simp <;> omega))) rfl ?_)
        (refine nx (aA (gN rfl) rfl rfl rfl rfl rfl) rfl ?_)
        refine ⟨n - (j + 1), st (j + 1) (ii + 1) (C.set ii x), by omega, ⟨j + 1, ii + 1, C.set ii x, rfl, by omega, by omega, by simp [hC], ?_, fun p hp => ?_, rfl⟩, wk_sub ⟨rfl, rfl, rfl, rfl, ?_, trivial⟩⟩
        · rw [set_take (by omega), hI1, take_snoc (k := j + 1) hx, List.filter_append]
          simp [hq]
        · rw [List.getElem?_set_ne (by omega)]; exact hI2 p (by omega)
        · show some (AV.mrow _ _ _) = some (AV.mrow _ _ _)
          rw [set_map_cv]
      · have hq : q x = true := by simpa using hq
        refine aK ?_
        show AWp _ _ _ _ _ _ _
        refine AWp.wk (wk_sub (s' := st j ii C) ⟨rfl, rfl, rfl, rfl, rfl, trivial⟩) ?_
        refine aR ?_
        (refine nx (aM (gN rfl) rfl rfl rfl rfl rfl) rfl ?_)
        (refine nx (a_add (gN rfl) rfl rfl rfl rfl rfl rfl (by first | omega | (simp only [List.length_map, List.length_append, List.length_cons, List.length_nil] <;> omega) | (simp <;> omega))) rfl ?_)
        (refine nx (aA (gN rfl) rfl rfl rfl rfl rfl) rfl ?_)
        refine ⟨n - (j + 1), st (j + 1) ii C, by omega, ⟨j + 1, ii, C, rfl, by omega, by omega, hC, ?_, fun p hp => hI2 p (by omega), rfl⟩, wk_sub ⟨rfl, rfl, rfl, rfl, rfl, trivial⟩⟩
        rw [hI1, take_snoc (k := j + 1) hx, List.filter_append]
        simp [hq]
    · have hjl : j + 1 = n := by have h3 : decide ((((j + 1 : Nat) : Int)) < (n : Int)) = false := hlt; simp at h3; omega
      refine aE ?_
      show AWp _ _ _ _ _ _ _
      refine AWp.wk (wk_sub (s' := st j ii C) ⟨rfl, rfl, rfl, rfl, rfl, trivial⟩) ?_
      refine aS (aR ?_)
      (refine nx (aM (gN rfl) rfl rfl rfl rfl rfl) rfl ?_)
      (refine nx (aM (gN rfl) rfl rfl rfl rfl rfl) rfl ?_)
      (refine nx (a_fromM (j := ii) (gN rfl) rfl rfl rfl rfl rfl rfl rfl rfl (by first | rfl | omega | (simp only [List.length_set, List.length_map, List.length_append, List.length_cons, List.length_nil] <;> omega) | (simp <;> omega)) (by first | rfl | omega | (simp only [List.length_set, List.length_map, List.length_append, List.length_cons, List.length_nil] <;> omega) | (simp <;> omega))) rfl ?_)
      (refine nx (a_clearM (gN rfl) rfl rfl rfl rfl rfl rfl rfl rfl (by first | rfl | omega | (simp only [List.length_set, List.length_map, List.length_append, List.length_cons, List.length_nil] <;> omega) | (simp <;> omega))) rfl ?_)
      show AWp _ _ _ _ _ _ _
      refine aS (aR ?_)
      (refine nx (aM (gN rfl) rfl rfl rfl rfl rfl) rfl ?_)
      (refine nx (aM (gN rfl) rfl rfl rfl rfl rfl) rfl ?_)
      (refine nx (a_uptoM (j := ii) (gN rfl) rfl rfl rfl rfl rfl rfl rfl rfl (by first | rfl | omega | (simp only [List.length_set, List.length_map, List.length_append, List.length_cons, List.length_nil] <;> omega) | (simp <;> omega)) (by first | rfl | omega | (simp only [List.length_set, List.length_map, List.length_append, List.length_cons, List.length_nil] <;> omega) | (simp <;> omega))) rfl ?_)
      (refine nx (aA (gN rfl) rfl rfl rfl rfl rfl) rfl ?_)
      show AWp _ _ _ _ _ _ _
      rw [hjl, ← hR] at hI1
      have hkk : ii = R.length := by rw [← hI1]; simp; omega
      have hdrop : C.drop n = L.drop n := by
        apply List.ext_getElem?
        intro p
        rw [List.getElem?_drop, List.getElem?_drop]
        exact hI2 _ (by omega)
      refine aT ⟨.inr rfl, _, Wk.refl _, ?_, ?_, trivial⟩
      · rw [← hkk]; rfl
      · show some (AV.mrow _ _ _) = some (AV.mrow _ _ _)
        rw [← hkk, ← hI1, ← hdrop, List.map_append, ← List.map_take, List.map_append, List.map_replicate]
        simp only [Nat.zero_add]
        rw [show ii + (n - ii) = n by omega, List.map_drop]
        rfl
def sameV (x y : Bd) : Bool := decide (x.v = y.v)
def sortF (L : List Bd) : List Bd := isortN (ltC cmpB) 0 (L.length - 1) 1 L
def firstsF (L : List Bd) : List Bd := cptN sameV (sortF L) (sortF L).length
def Bd.strip (b : Bd) : Bd := ⟨b.v, b.t.strip⟩
def normF (L : List Bd) : List Bd := ((firstsF L).filter fun b => !idleB b).map Bd.strip

theorem sortF_len (L : List Bd) : (sortF L).length = L.length := isortN_len _ _ _ _ _
theorem cptN_step {q : Bd → Bd → Bool} {L : List Bd} (n : Nat) : cptN q L (n + 1) = cptN q L n ∨ ∃ x, L[n]? = some x ∧ cptN q L (n + 1) = cptN q L n ++ [x] := by
  cases n with
  | zero =>
    cases L with
    | nil => left; rfl
    | cons x l => right; exact ⟨x, rfl, rfl⟩
  | succ m =>
    cases hx : L[m + 1]? with
    | none => left; rw [cptN]; simp only [hx]
    | some x =>
      cases hy : L[m]? with
      | none => right; exact ⟨x, rfl, by rw [cptN]; simp only [hx, hy]⟩
      | some y =>
        cases hq : q x y with
        | true => left; exact cptN_yes hx hy hq
        | false => right; exact ⟨x, rfl, cptN_no hx hy hq⟩
theorem cptN_mem {q : Bd → Bd → Bool} {L : List Bd} : ∀ {n : Nat} {x : Bd}, x ∈ cptN q L n → x ∈ L
  | 0, x, h => by simp [cptN] at h
  | n + 1, x, h => by
    rcases cptN_step (q := q) (L := L) n with e | ⟨y, h1, e⟩
    · rw [e] at h; exact cptN_mem h
    · rw [e] at h
      rcases List.mem_append.1 h with h | h
      · exact cptN_mem h
      · rw [List.mem_singleton.1 h]; exact List.mem_of_getElem? h1
theorem cptN_len {q : Bd → Bd → Bool} {L : List Bd} : ∀ {n : Nat}, (cptN q L n).length ≤ n
  | 0 => Nat.le_refl _
  | n + 1 => by
    have ih := cptN_len (q := q) (L := L) (n := n)
    rcases cptN_step (q := q) (L := L) n with e | ⟨y, h1, e⟩
    · rw [e]; omega
    · rw [e]; simp; omega
theorem sink_mem {lt : Bd → Bd → Bool} {a : Nat} : ∀ {j : Nat} {L : List Bd} {z : Bd}, z ∈ sink lt a j L ↔ z ∈ L
  | 0, L, z => Iff.rfl
  | j + 1, L, z => by
    rw [sink]
    split
    · rename_i x y hx hy
      split
      · rw [sink_mem]
        have hj : j + 1 < L.length := by
          rcases Nat.lt_or_ge (j + 1) L.length with h | h
          · exact h
          · rw [List.getElem?_eq_none h] at hx; cases hx
        have hxe : L[j + 1] = x := by rw [List.getElem?_eq_getElem hj] at hx; exact Option.some.inj hx
        have hye : L[j]'(by omega) = y := by rw [List.getElem?_eq_getElem (by omega)] at hy; exact Option.some.inj hy
        constructor
        · intro h
          rcases mem_set_of h with h | rfl
          · rcases mem_set_of h with h | rfl
            · exact h
            · exact List.mem_of_getElem? hy
          · exact List.mem_of_getElem? hx
        · intro h
          obtain ⟨i, hi⟩ := List.getElem?_of_mem h
          by_cases e1 : i = j
          · subst e1
            rw [hy] at hi
            cases hi
            exact List.mem_of_getElem? (i := i + 1) (by rw [List.getElem?_set_ne (by omega), List.getElem?_set_self hj])
          · by_cases e2 : i = j + 1
            · subst e2
              rw [hx] at hi
              cases hi
              exact List.mem_of_getElem? (i := j) (by rw [List.getElem?_set_self (by simp; omega)])
            · exact List.mem_of_getElem? (i := i) (by rw [List.getElem?_set_ne (Ne.symm e1), List.getElem?_set_ne (Ne.symm e2)]; exact hi)
      · exact Iff.rfl
    · exact Iff.rfl
theorem isortN_mem {lt : Bd → Bd → Bool} {a : Nat} : ∀ {n i : Nat} {L : List Bd} {z : Bd}, z ∈ isortN lt a n i L ↔ z ∈ L
  | 0, _, _, _ => Iff.rfl
  | n + 1, i, L, z => by rw [isortN, isortN_mem, sink_mem]
theorem firstsF_mem {L : List Bd} {x : Bd} (h : x ∈ firstsF L) : x ∈ L := isortN_mem.1 (cptN_mem h)
theorem firstsF_len (L : List Bd) : (firstsF L).length ≤ L.length := by
  have := cptN_len (q := sameV) (L := sortF L) (n := (sortF L).length)
  rw [sortF_len] at this
  unfold firstsF
  rw [sortF_len]
  exact this

-- 
theorem firstsG_abs (L : List Bd) (hn : L.length ≤ 1000000) (hso : AFunO Tryz.prog 177 [(400000, .mrow 112 3 (L.map Bd.cv))] [.sl 400000 0 L.length 3, .val (.sc (.func (.func 178) #[] #[]))] (.tup []) [(400000, .mrow 112 3 ((sortF L).map Bd.cv))]) :
    AFunO Tryz.prog 159 [] [.val (.lst (L.map Bd.cv))] (.sl 400000 0 (firstsF L).length 3) [(400000, .mrow 112 3 ((firstsF L ++ List.replicate (L.length - (firstsF L).length) Bd.zero).map Bd.cv))] := by
  refine afunO_of Tryz.func159 Tryz.ntmps159 rfl rfl rfl rfl rfl rfl ?_
  intro w U hU
  have hUf : U.f 400000 = none := by
    cases h : U.f 400000 with
    | none => rfl
    | some v => have := hU _ _ h; cases this
  have hcl := cloneB_abs L (by omega)
  have hco := compact_abs sameV (.sc (.func (.func 180) #[] #[])) (sortF L) (by rw [sortF_len]; omega) (fun W x y => .inr ⟨_, rfl, sameB_abs W x y⟩)
  refine aS (aR ?_)
  (refine nx (aA (gN rfl) rfl rfl rfl rfl rfl) rfl ?_)
  show AWp _ _ _ _ _ _ _
  refine aS (aR ?_)
  (refine nx (aM (gN rfl) rfl rfl rfl rfl rfl) rfl ?_)
  (refine nx (a_callO (gN rfl) rfl rfl rfl rfl rfl (hcl) (by repeat (first | exact trivial | refine ⟨rfl, ?_⟩)) (by first | rfl | kernel_rfl) (by first | rfl | kernel_rfl) (by first | rfl | kernel_rfl) (by first | rfl | kernel_rfl) (hnb_of (by first | rfl | kernel_rfl))) rfl ?_)
  (refine nx (aA (gN rfl) rfl rfl rfl rfl rfl) rfl ?_)
  show AWp _ _ _ _ _ _ _
  refine AWp.wk ((wk_sub (s' := [(3, .sl 250007 0 L.length 3), (250007, .mrow 112 3 (L.map Bd.cv))]) ⟨rfl, rfl, trivial⟩).trans (wk_renF 250007 400000 rfl rfl hUf rfl rfl rfl)) ?_
  refine aS (aR ?_)
  (refine nx (aM (gN rfl) rfl rfl rfl rfl rfl) rfl ?_)
  (refine nx (a_callO (gN rfl) rfl rfl rfl rfl rfl (hso) (by repeat (first | exact trivial | refine ⟨rfl, ?_⟩)) (by first | rfl | kernel_rfl) (by first | rfl | kernel_rfl) (by first | rfl | kernel_rfl) (by first | rfl | kernel_rfl) (hnb_of (by first | rfl | kernel_rfl))) rfl ?_)
  show AWp _ _ _ _ _ _ _
  refine AWp.wk (wk_sub (s' := [(3, .sl 400000 0 (sortF L).length 3), (400000, .mrow 112 3 ((sortF L).map Bd.cv))]) ⟨by rw [sortF_len]; rfl, rfl, trivial⟩) ?_
  refine aS (aR ?_)
  (refine nx (aM (gN rfl) rfl rfl rfl rfl rfl) rfl ?_)
  (refine nx (a_callO (gN rfl) rfl rfl rfl rfl rfl (hco) (by repeat (first | exact trivial | refine ⟨rfl, ?_⟩)) (by first | rfl | kernel_rfl) (by first | rfl | kernel_rfl) (by first | rfl | kernel_rfl) (by first | rfl | kernel_rfl) (hnb_of (by first | rfl | kernel_rfl))) rfl ?_)
  (refine nx (aA (gN rfl) rfl rfl rfl rfl rfl) rfl ?_)
  show AWp _ _ _ _ _ _ _
  refine aT ⟨.inr rfl, _, Wk.refl _, rfl, ?_, trivial⟩
  show some (AV.mrow _ _ _) = some (AV.mrow _ _ _)
  rw [sortF_len]
  unfold firstsF
  rw [sortF_len]

theorem firsts_abs (L : List Bd) (hn : L.length < 20) :
    AFunO Tryz.prog 159 [] [.val (.lst (L.map Bd.cv))] (.sl 400000 0 (firstsF L).length 3) [(400000, .mrow 112 3 ((firstsF L ++ List.replicate (L.length - (firstsF L).length) Bd.zero).map Bd.cv))] := firstsG_abs L (by omega) (sortStable_abs cmpB (.sc (.func (.func 178) #[] #[])) L hn (fun W x y => .inr ⟨_, rfl, cmpB_abs W x y⟩))

-- 
theorem normG_abs (W : World) (L : List Bd) (hn : L.length ≤ 1000000) (hb : bdsOk L) (hfi : AFunO Tryz.prog 159 [] [.val (.lst (L.map Bd.cv))] (.sl 400000 0 (firstsF L).length 3) [(400000, .mrow 112 3 ((firstsF L ++ List.replicate (L.length - (firstsF L).length) Bd.zero).map Bd.cv))]) : AFun Tryz.prog W 125 [.lst (L.map Bd.cv)] (.val (.lst ((normF L).map Bd.cv))) := by
  refine afun_of (rs := [.lst ((normF L).map Bd.cv)]) Tryz.func125 Tryz.ntmps125 rfl rfl rfl rfl ?_
  intro w U hW
  obtain ⟨F, hF⟩ : ∃ F, F = firstsF L ++ List.replicate (L.length - (firstsF L).length) Bd.zero := ⟨_, rfl⟩
  rw [← hF] at hfi
  have hFl : F.length = L.length := by rw [hF]; have := firstsF_len L; simp; omega
  have hFt : F.take (firstsF L).length = firstsF L := by rw [hF]; simp
  have hde := delete_abs idleB (.sc (.func (.func 160) #[] #[])) F (firstsF L).length (by rw [hFl]; exact firstsF_len L) (by omega) (fun W x hx => .inr ⟨_, rfl, idle_abs W x (by rw [hFt] at hx; exact ((Tm.rng_iff _).1 (hb x (firstsF_mem hx)).1).1.1)⟩)
  rw [hFt] at hde
  obtain ⟨R, hR⟩ : ∃ R, R = (firstsF L).filter fun b => !idleB b := ⟨_, rfl⟩
  rw [← hR] at hde
  obtain ⟨Z, hZ⟩ : ∃ Z, Z = List.replicate ((firstsF L).length - R.length) Bd.zero ++ F.drop (firstsF L).length := ⟨_, rfl⟩
  rw [← hZ] at hde
  have hRm : ∀ x ∈ R, x ∈ L := fun x hx => by rw [hR] at hx; exact firstsF_mem (List.mem_filter.1 hx).1
  have hRl : R.length ≤ L.length := by rw [hR]; exact Nat.le_trans (List.length_filter_le _ _) (firstsF_len L)
  refine aS (aR ?_)
  (refine nx (aA (gN rfl) rfl rfl rfl rfl rfl) rfl ?_)
  show AWp _ _ _ _ _ _ _
  refine aS (aR ?_)
  (refine nx (aM (gN rfl) rfl rfl rfl rfl rfl) rfl ?_)
  (refine nx (a_callO (gN rfl) rfl rfl rfl rfl rfl (hfi) (by repeat (first | exact trivial | refine ⟨rfl, ?_⟩)) (by first | rfl | kernel_rfl) (by first | rfl | kernel_rfl) (by first | rfl | kernel_rfl) (by first | rfl | kernel_rfl) (fun k v h => by first | (rw [hW.1] at h; cases h) | (have h2 := hU k v h; cases h2))) rfl ?_)
  (refine nx (a_callO (gN rfl) rfl rfl rfl rfl rfl (hde) (by repeat (first | exact trivial | refine ⟨rfl, ?_⟩)) (by first | rfl | kernel_rfl) (by first | rfl | kernel_rfl) (by first | rfl | kernel_rfl) (by first | rfl | kernel_rfl) (hnb_of (by first | rfl | kernel_rfl))) rfl ?_)
  (refine nx (aA (gN rfl) rfl rfl rfl rfl rfl) rfl ?_)
  show AWp _ _ _ _ _ _ _
  refine aS (aS (aR ?_))
  (refine nx (aM (gN rfl) rfl rfl rfl rfl rfl) rfl ?_)
  (refine nx (a_lenM (gN rfl) rfl rfl rfl rfl rfl rfl rfl) rfl ?_)
  (refine nx (aM (gN rfl) rfl rfl rfl rfl rfl) rfl ?_)
  show AWp _ _ _ _ _ _ _
  let C : Nat → List Bd := fun k => (R.take k).map Bd.strip ++ (R.drop k ++ Z)
  refine aB (awp_count R.length (fun k => [(3, .sl 400000 0 R.length 3), (9, .sl 400000 0 R.length 3), (10, .val (.i R.length)), (11, .val (.i k)), (400000, .mrow 112 3 ((C k).map Bd.cv))]) (wk_sub ⟨rfl, rfl, rfl, rfl, rfl, trivial⟩) ?_)
  intro k hk
  have hCl : (C k).length = R.length + Z.length := by simp [C]; omega
  refine aS (aR ?_)
  (refine nx (a_lss (gN rfl) rfl rfl rfl rfl rfl rfl) rfl ?_)
  show AWp _ _ _ _ _ _ _
  refine aS (aC rfl (fun hlt => ?_) (fun hlt => ?_))
  · have hkl : k < R.length := by simpa using hlt
    obtain ⟨x, hx⟩ : ∃ x, R[k]? = some x := ⟨R[k], List.getElem?_eq_getElem hkl⟩
    have hxC : (C k)[k]? = some x := by
      show ((R.take k).map Bd.strip ++ (R.drop k ++ Z))[k]? = some x
      rw [List.getElem?_append_right (by simp; omega), List.getElem?_append_left (by simp; omega), List.getElem?_drop]
      simp only [List.length_map, List.length_take, Nat.min_eq_left (Nat.le_of_lt hkl), Nat.sub_self, Nat.add_zero]
      exact hx
    have hx' := Bd.map_at hxC
    have hxo := hb x (hRm x (List.mem_of_getElem? hx))
    refine aK ?_
    show AWp _ _ _ _ _ _ _
    refine aS (aB (aS (aR ?_)))
    (refine nx (aM (gN rfl) rfl rfl rfl rfl rfl) rfl ?_)
    (refine nx (aIm (k := k) (gN rfl) rfl rfl rfl rfl rfl rfl rfl rfl rfl (by first | rfl | omega | (simp only [List.length_set, List.length_map, List.length_append, List.length_cons, List.length_nil] <;> omega) | (simp <;> omega))) rfl ?_)
    (refine nx (a_loadM (gN rfl) rfl rfl rfl rfl rfl rfl rfl rfl (hx') rfl (by first | rfl | omega | (simp only [List.length_set, List.length_map, List.length_append, List.length_cons, List.length_nil] <;> omega) | (simp <;> omega)) rfl rfl) rfl ?_)
    (refine nx (a_alloc (gN rfl) rfl rfl rfl rfl rfl rfl rfl rfl rfl rfl) rfl ?_)
    (refine nx (aA (gN rfl) rfl rfl rfl rfl rfl) rfl ?_)
    (refine nx (aSt (gN rfl) rfl rfl rfl rfl rfl rfl rfl rfl rfl rfl) rfl ?_)
    show AWp _ _ _ _ _ _ _
    refine aR ?_
    (refine nx (aM (gN rfl) rfl rfl rfl rfl rfl) rfl ?_)
    (refine nx (aM (gN rfl) rfl rfl rfl rfl rfl) rfl ?_)
    (refine nx (aF (gN rfl) rfl rfl rfl rfl rfl rfl rfl rfl rfl) rfl ?_)
    (refine nx (aLb (gN rfl) rfl rfl rfl rfl rfl rfl rfl rfl rfl rfl rfl rfl) rfl ?_)
    (refine nx (a_call (gN rfl) rfl rfl rfl rfl rfl (clone_abs _ hxo.1 hxo.2)) rfl ?_)
    (refine nx (aIm (k := k) (gN rfl) rfl rfl rfl rfl rfl rfl rfl rfl rfl (by first | rfl | omega | (simp only [List.length_set, List.length_map, List.length_append, List.length_cons, List.length_nil] <;> omega) | (simp <;> omega))) rfl ?_)
    (refine nx (a_fieldM (gN rfl) rfl rfl rfl rfl rfl rfl rfl rfl rfl) rfl ?_)
    (refine nx (a_storeM (gN rfl) rfl rfl rfl rfl rfl rfl (hx') rfl rfl (by first | rfl | omega | (simp only [List.length_set, List.length_map, List.length_append, List.length_cons, List.length_nil] <;> omega) | (simp <;> omega)) rfl) rfl ?_)
    show AWp _ _ _ _ _ _ _
    refine aR ?_
    (refine nx (a_add (gN rfl) rfl rfl rfl rfl rfl rfl (by first | omega | (simp only [List.length_map, List.length_append, List.length_cons, List.length_nil] <;> omega) | (simp <;> omega))) rfl ?_)
    (refine nx (aM (gN rfl) rfl rfl rfl rfl rfl) rfl ?_)
    refine ⟨hkl, wk_sub ⟨rfl, rfl, rfl, rfl, ?_, trivial⟩⟩
    show some (AV.mrow _ _ _) = some (AV.mrow _ _ _)
    have e1 : ((C k).map Bd.cv).set k (Bd.strip x).cw = (C (k + 1)).map Bd.cv := by
      rw [set_map_cv]
      congr 1
      show ((R.take k).map Bd.strip ++ (R.drop k ++ Z)).set k (Bd.strip x) = (R.take (k + 1)).map Bd.strip ++ (R.drop (k + 1) ++ Z)
      rw [List.set_append_right _ _ (by simp; omega)]
      simp only [List.length_map, List.length_take, Nat.min_eq_left (Nat.le_of_lt hkl), Nat.sub_self]
      have e2 : R.drop k = x :: R.drop (k + 1) := by
        rw [List.getElem?_eq_getElem hkl] at hx
        rw [← Option.some.inj hx, List.getElem_cons_drop]
      rw [e2, take_snoc hx, List.map_append]
      simp
    rw [← e1]
    rfl
  · have hkl : k = R.length := by
      have : ¬ k < R.length := by simpa using hlt
      omega
    subst hkl
    refine aE ?_
    show AWp _ _ _ _ _ _ _
    refine aS (aR ?_)
    (refine nx (aM (gN rfl) rfl rfl rfl rfl rfl) rfl ?_)
    (refine nx (aA (gN rfl) rfl rfl rfl rfl rfl) rfl ?_)
    show AWp _ _ _ _ _ _ _
    refine AWp.wk (wk_frz 2 400000 rfl rfl rfl (.inl hW.2) (by rw [List.length_map, hCl]; omega) (s' := []) trivial rfl) ?_
    refine aT ⟨.inr rfl, ?_⟩
    show some [CV.lst _] = some [CV.lst _]
    congr 3
    show (((C R.length).map Bd.cv).drop 0).take R.length = (normF L).map Bd.cv
    rw [List.drop_zero, ← List.map_take]
    congr 1
    show (((R.take R.length).map Bd.strip ++ (R.drop R.length ++ Z))).take R.length = normF L
    rw [List.take_length, List.take_append_of_le_length (by simp), List.take_of_length_le (by simp), hR]
    rfl
theorem norm_abs (W : World) (L : List Bd) (hn : L.length < 20) (hb : bdsOk L) : AFun Tryz.prog W 125 [.lst (L.map Bd.cv)] (.val (.lst ((normF L).map Bd.cv))) := normG_abs W L (by omega) hb (firsts_abs L hn)
end Go.Proofs.YteegmcfobgpemaaGreat
namespace Go.Proofs.YteegmcfobgpemaaGreat
open Go.RowKit
set_option linter.unusedVariables false
set_option linter.unusedSimpArgs false
theorem ltB (x y : Bd) : ltC cmpB x y = decide (x.v < y.v) := by
  unfold ltC cmpB cmpZ
  by_cases h : x.v < y.v
  · simp [h]
  · by_cases h2 : x.v > y.v
    · simp [h, h2]
    · simp [h, h2]

theorem get_mid {α : Type} (A : List α) (x : α) (B : List α) : (A ++ x :: B)[A.length]? = some x := by simp
theorem sink_spec (lt : Bd → Bd → Bool) (x : Bd) (B : List Bd) : ∀ (n : Nat) (A : List Bd), A.length = n → ∃ A1 A2, A = A1 ++ A2 ∧ sink lt 0 A.length (A ++ x :: B) = A1 ++ x :: (A2 ++ B) ∧ (∀ y ∈ A2, lt x y = true) ∧ ∀ y, A1.getLast? = some y → lt x y = false := by
  intro n
  induction n generalizing x B with
  | zero =>
    intro A hA
    have : A = [] := List.eq_nil_of_length_eq_zero hA
    subst this
    exact ⟨[], [], rfl, rfl, by simp, by simp⟩
  | succ n ih =>
    intro A hA
    obtain ⟨A', y, rfl⟩ : ∃ A' y, A = A' ++ [y] := ⟨A.dropLast, A.getLast (by intro h; rw [h] at hA; simp at hA), (List.dropLast_concat_getLast _).symm⟩
    have hl : A'.length = n := by simp at hA; omega
    have hx : (A' ++ [y] ++ x :: B)[A'.length + 1]? = some x := by
      have := get_mid (A' ++ [y]) x B
      rwa [List.length_append, List.length_singleton] at this
    have hy : (A' ++ [y] ++ x :: B)[A'.length]? = some y := by
      rw [List.append_assoc]; exact get_mid A' y (x :: B)
    rw [List.length_append, List.length_singleton]
    cases h : lt x y with
    | false =>
      refine ⟨A' ++ [y], [], by simp, ?_, by simp, fun z hz => ?_⟩
      · rw [sink_no lt 0 hx hy h]; simp
      · rw [List.getLast?_append] at hz
        simp at hz
        subst hz; exact h
    | true =>
      rw [sink_yes lt 0 hx hy (by omega) h]
      have hsw : ((A' ++ [y] ++ x :: B).set (A'.length + 1) y).set A'.length x = A' ++ x :: (y :: B) := by
        rw [List.append_assoc, List.set_append_right _ _ (by omega), show A'.length + 1 - A'.length = 1 by omega, List.set_append_right _ _ (by simp)]
        simp
      rw [hsw]
      obtain ⟨A1, A2, e1, e2, e3, e4⟩ := ih x (y :: B) A' hl
      refine ⟨A1, A2 ++ [y], by rw [e1]; simp, by rw [e2]; simp, fun z hz => ?_, e4⟩
      rcases List.mem_append.1 hz with hz | hz
      · exact e3 z hz
      · rw [List.mem_singleton.1 hz]; exact h

def SrtB (l : List Bd) : Prop := l.Pairwise fun x y => x.v ≤ y.v
theorem srt_ins {A1 A2 : List Bd} {x : Bd} (h : SrtB (A1 ++ A2)) (h2 : ∀ y ∈ A2, x.v < y.v) (h1 : ∀ y, A1.getLast? = some y → ¬ x.v < y.v) : SrtB (A1 ++ x :: A2) := by
  unfold SrtB at h ⊢
  rw [List.pairwise_append] at h ⊢
  refine ⟨h.1, List.pairwise_cons.2 ⟨fun y hy => Int.le_of_lt (h2 y hy), h.2.1⟩, fun a ha b hb => ?_⟩
  rcases List.mem_cons.1 hb with rfl | hb
  · -- a is at most the last
    obtain ⟨A', z, rfl⟩ : ∃ A' z, A1 = A' ++ [z] := ⟨A1.dropLast, A1.getLast (List.ne_nil_of_mem ha), (List.dropLast_concat_getLast _).symm⟩
    have hz := h1 z (by simp)
    rcases List.mem_append.1 ha with ha | ha
    · have := (List.pairwise_append.1 h.1).2.2 a ha z (by simp)
      omega
    · rw [List.mem_singleton.1 ha]; omega
  · exact h.2.2 a ha b hb
theorem filt_ins {A1 A2 : List Bd} {x : Bd} (h2 : ∀ y ∈ A2, x.v < y.v) (v : Int) : (A1 ++ x :: A2).filter (fun b => decide (b.v = v)) = (A1 ++ A2 ++ [x]).filter (fun b => decide (b.v = v)) := by
  simp only [List.filter_append, List.filter_cons, List.filter_nil, List.append_assoc]
  by_cases h : x.v = v
  · have : A2.filter (fun b => decide (b.v = v)) = [] := by
      rw [List.filter_eq_nil_iff]
      intro y hy hv
      have := h2 y hy
      simp at hv
      omega
    rw [this]; simp [h]
  · simp [h]
theorem isortN_spec : ∀ (n : Nat) (A B : List Bd), SrtB A → n ≤ B.length → ∃ A', isortN (ltC cmpB) 0 n A.length (A ++ B) = A' ++ B.drop n ∧ SrtB A' ∧ A'.length = A.length + n ∧ ∀ v, A'.filter (fun b => decide (b.v = v)) = (A ++ B.take n).filter (fun b => decide (b.v = v))
  | 0, A, B, hA, _ => ⟨A, by simp [isortN], hA, rfl, fun v => by simp⟩
  | n + 1, A, [], hA, hn => by simp at hn
  | n + 1, A, x :: B, hA, hn => by
    obtain ⟨A1, A2, e1, e2, e3, e4⟩ := sink_spec (ltC cmpB) x B A.length A rfl
    have h2 : ∀ y ∈ A2, x.v < y.v := fun y hy => by have := e3 y hy; rw [ltB] at this; simpa using this
    have h1 : ∀ y, A1.getLast? = some y → ¬ x.v < y.v := fun y hy => by have := e4 y hy; rw [ltB] at this; simpa using this
    have hs : SrtB (A1 ++ x :: A2) := srt_ins (by rw [← e1]; exact hA) h2 h1
    obtain ⟨A', f1, f2, f3, f4⟩ := isortN_spec n (A1 ++ x :: A2) B hs (by simpa using hn)
    have hl : (A1 ++ x :: A2).length = A.length + 1 := by rw [e1]; simp; omega
    refine ⟨A', ?_, f2, by rw [f3, hl]; omega, fun v => ?_⟩
    · rw [isortN, e2, show A1 ++ x :: (A2 ++ B) = (A1 ++ x :: A2) ++ B by simp, ← hl, f1]; rfl
    · rw [f4 v, List.filter_append, filt_ins h2 v, ← e1, List.take_succ_cons, ← List.filter_append, List.append_assoc]
      rfl
theorem sortF_spec (L : List Bd) : SrtB (sortF L) ∧ ∀ v, (sortF L).filter (fun b => decide (b.v = v)) = L.filter (fun b => decide (b.v = v)) := by
  cases L with
  | nil => exact ⟨List.Pairwise.nil, fun v => rfl⟩
  | cons x l =>
    obtain ⟨A', f1, f2, f3, f4⟩ := isortN_spec l.length [x] l (List.pairwise_singleton _ _) (Nat.le_refl _)
    have e : sortF (x :: l) = A' := by
      unfold sortF
      rw [List.length_cons, Nat.add_sub_cancel]
      have := f1
      rw [List.drop_length, List.append_nil] at this
      exact this
    rw [e]
    exact ⟨f2, fun v => by rw [f4 v, List.take_length]; rfl⟩

theorem findB_filter : ∀ (L : List Bd) (v : Int), findB L v = (L.filter (fun b => decide (b.v = v))).head?.map Bd.t
  | [], _ => rfl
  | b :: L, v => by
    rw [findB]
    by_cases h : b.v = v
    · simp [h]
    · rw [if_neg h, findB_filter L v]; simp [h]
theorem findB_sort (L : List Bd) (v : Int) : findB (sortF L) v = findB L v := by rw [findB_filter, findB_filter, (sortF_spec L).2]
theorem findB_snoc (L : List Bd) (x : Bd) (v : Int) : findB (L ++ [x]) v = (findB L v).or (if x.v = v then some x.t else none) := by
  induction L with
  | nil => simp only [List.nil_append, findB]; split <;> rfl
  | cons b L ih =>
    rw [List.cons_append, findB, findB]
    split
    · rfl
    · exact ih
theorem findB_some_of_mem {L : List Bd} {x : Bd} (h : x ∈ L) : ∃ t, findB L x.v = some t := by
  induction L with
  | nil => cases h
  | cons b L ih =>
    rw [findB]
    split
    · exact ⟨_, rfl⟩
    · rename_i hne
      rcases List.mem_cons.1 h with rfl | h
      · exact absurd rfl hne
      · exact ih h
theorem cpt_spec {S : List Bd} (hS : SrtB S) : ∀ (m : Nat), m ≤ S.length → (∀ v, findB (cptN sameV S m) v = findB (S.take m) v) ∧ (cptN sameV S m).Pairwise (fun x y => x.v < y.v) ∧ ∀ (k : Nat) (y : Bd), m = k + 1 → S[k]? = some y → ∀ x ∈ cptN sameV S m, x.v ≤ y.v
  | 0, _ => ⟨fun v => rfl, List.Pairwise.nil, fun k y h => by omega⟩
  | 1, h => by
    cases S with
    | nil => simp at h
    | cons x l =>
      rw [cptN_one]
      exact ⟨fun v => rfl, List.pairwise_singleton _ _, fun k y hk hy z hz => by
        have : k = 0 := by omega
        subst this
        simp at hy hz
        subst hy; subst hz; exact Int.le_refl _⟩
  | m + 2, h => by
    obtain ⟨ih1, ih2, ih3⟩ := cpt_spec hS (m + 1) (by omega)
    obtain ⟨x, hx⟩ : ∃ x, S[m + 1]? = some x := ⟨S[m + 1], List.getElem?_eq_getElem (by omega)⟩
    obtain ⟨y, hy⟩ : ∃ y, S[m]? = some y := ⟨S[m]'(by omega), List.getElem?_eq_getElem (by omega)⟩
    have hle : y.v ≤ x.v := by
      have := List.pairwise_iff_getElem.1 hS m (m + 1) (by omega) (by omega) (by omega)
      rw [List.getElem?_eq_getElem (by omega)] at hx hy
      rw [← Option.some.inj hx, ← Option.some.inj hy]
      exact this
    have htk := take_snoc hx
    cases hq : sameV x y with
    | true =>
      have hv : x.v = y.v := by simpa [sameV] using hq
      rw [cptN_yes hx hy hq]
      refine ⟨fun v => ?_, ih2, fun k z hk hz w hw => ?_⟩
      · rw [ih1 v, htk, findB_snoc]
        by_cases e : x.v = v
        · obtain ⟨t, ht⟩ := findB_some_of_mem (L := S.take (m + 1)) (x := y) (List.mem_of_getElem? (i := m) (by rw [List.getElem?_take, if_pos (by omega)]; exact hy))
          rw [← e, hv, ht]; rfl
        · rw [if_neg e]; simp
      · have : k = m + 1 := by omega
        subst this
        rw [hx] at hz
        cases hz
        rw [hv]
        exact ih3 m y rfl hy w hw
    | false =>
      have hv : x.v ≠ y.v := by simpa [sameV] using hq
      rw [cptN_no hx hy hq]
      refine ⟨fun v => by rw [findB_snoc, ih1 v, htk, findB_snoc], ?_, fun k z hk hz w hw => ?_⟩
      · rw [List.pairwise_append]
        refine ⟨ih2, List.pairwise_singleton _ _, fun a ha b hb => ?_⟩
        rw [List.mem_singleton.1 hb]
        have := ih3 m y rfl hy a ha
        omega
      · have : k = m + 1 := by omega
        subst this
        rw [hx] at hz
        cases hz
        rcases List.mem_append.1 hw with hw | hw
        · have := ih3 m y rfl hy w hw; omega
        · rw [List.mem_singleton.1 hw]; exact Int.le_refl _
theorem firstsF_spec (L : List Bd) : (∀ v, findB (firstsF L) v = findB L v) ∧ (firstsF L).Pairwise (fun x y => x.v < y.v) := by
  obtain ⟨h1, h2, _⟩ := cpt_spec (sortF_spec L).1 (sortF L).length (Nat.le_refl _)
  refine ⟨fun v => ?_, h2⟩
  have := h1 v
  rw [List.take_length, findB_sort] at this
  exact this

theorem findB_map {L : List Bd} (v : Int) : findB (L.map Bd.strip) v = (findB L v).map Tm.strip := by
  induction L with
  | nil => rfl
  | cons b L ih =>
    rw [List.map_cons, findB, findB]
    show (if b.v = v then _ else _) = _
    split
    · rfl
    · exact ih
theorem findB_idle {L : List Bd} (h : L.Pairwise (fun x y => x.v < y.v)) (v : Int) : findB (L.filter fun b => !idleB b) v = match findB L v with | some t => if idleB ⟨v, t⟩ then none else some t | none => none := by
  induction L with
  | nil => rfl
  | cons b L ih =>
    rw [List.pairwise_cons] at h
    rw [List.filter_cons]
    by_cases hv : b.v = v
    · have hno : ∀ c ∈ L, c.v ≠ v := fun c hc => by have := h.1 c hc; omega
      have hb : (⟨v, b.t⟩ : Bd) = b := by rw [← hv]
      rw [findB, if_pos hv]
      simp only
      rw [hb]
      cases hi : idleB b with
      | true =>
        simp only [Bool.not_true, Bool.false_eq_true, if_false, if_true]
        exact findB_none fun c hc => hno c (List.mem_filter.1 hc).1
      | false =>
        simp only [Bool.not_false, if_true, Bool.false_eq_true, if_false]
        rw [findB, if_pos hv]
    · rw [findB, if_neg hv]
      split
      · rw [findB, if_neg hv]; exact ih h.2
      · exact ih h.2
theorem findB_norm (L : List Bd) (v : Int) : findB (normF L) v = match findB L v with | some t => if idleB ⟨v, t⟩ then none else some t.strip | none => none := by
  unfold normF
  rw [findB_map, findB_idle (firstsF_spec L).2, (firstsF_spec L).1]
  cases findB L v with
  | none => rfl
  | some t => simp only; split <;> rfl
theorem normF_srt (L : List Bd) : (normF L).Pairwise (fun x y => x.v < y.v) := by
  unfold normF
  rw [List.pairwise_map]
  exact ((firstsF_spec L).2.filter _).imp (fun h => h)
theorem strip_of_var {t : Tm} (h : t.f < 0) : t.strip = ⟨t.f, []⟩ := by
  rw [Tm.strip_eq]
  have : t.ps = [] := by unfold Tm.ps; rw [if_pos h]
  rw [this]; rfl
end Go.Proofs.YteegmcfobgpemaaGreat
namespace Go.Proofs.YteegmcfobgpemaaGreat
open Go.RowKit
set_option linter.unusedVariables false
set_option linter.unusedSimpArgs false
set_option maxRecDepth 100000
theorem rep_congrS {f g : Int → Tm} {t : Tm} (h : ∀ v ∈ t.vs, (f v).strip = (g v).strip) : repT f t = repT g t := by
  induction t using Tm.indp with
  | h t ih =>
    by_cases hf : t.f < 0
    · rw [Tm.vs_var hf] at h
      rw [repT_var hf, repT_var hf, h _ (by simp)]
    · rw [Tm.vs_sym hf] at h
      rw [Tm.ps_of_sym (by omega)] at ih
      rw [repT_sym hf, repT_sym hf]
      congr 1
      exact List.map_congr_left fun s hs => ih s hs fun v hv => h v (List.mem_flatMap.2 ⟨s, hs, hv⟩)
theorem findB_appd (A M : List Bd) (v : Int) : findB (A ++ M) v = (findB A v).or (findB M v) := by
  induction A with
  | nil => rfl
  | cons b A ih =>
    rw [List.cons_append, findB, findB]
    split
    · rfl
    · exact ih
theorem rep_two (f g : Int → Tm) (t : Tm) : repT g (repT f t) = repT (fun v => repT g (f v)) t := by
  induction t using Tm.indp with
  | h t ih =>
    by_cases hf : t.f < 0
    · rw [repT_var hf, repT_var hf, rep_strip, rep_bare]
    · rw [Tm.ps_of_sym (by omega)] at ih
      rw [repT_sym hf, repT_sym (t := ⟨t.f, _⟩) hf, repT_sym hf]
      simp only [List.map_map]
      congr 1
      exact List.map_congr_left fun s hs => ih s hs
theorem normF_len (L : List Bd) : (normF L).length ≤ L.length := by
  unfold normF
  rw [List.length_map]
  exact Nat.le_trans (List.length_filter_le _ _) (firstsF_len L)
end Go.Proofs.YteegmcfobgpemaaGreat
namespace Go.Proofs.YteegmcfobgpemaaGreat
set_option linter.unusedVariables false
set_option linter.unusedSimpArgs false
def uni (τ : Int → Tm) (E : List (Tm × Tm)) : Prop := ∀ p ∈ E, repT τ p.1 = repT τ p.2
theorem uni_app {τ : Int → Tm} {E F : List (Tm × Tm)} : uni τ (E ++ F) ↔ uni τ E ∧ uni τ F := by
  unfold uni
  constructor
  · intro h; exact ⟨fun p hp => h p (List.mem_append_left _ hp), fun p hp => h p (List.mem_append_right _ hp)⟩
  · rintro ⟨h1, h2⟩ p hp
    rcases List.mem_append.1 hp with hp | hp
    · exact h1 p hp
    · exact h2 p hp
theorem uni_one {τ : Int → Tm} {a b : Tm} : uni τ [(a, b)] ↔ repT τ a = repT τ b := by
  unfold uni
  constructor
  · intro h; exact h (a, b) (by simp)
  · intro h p hp
    simp only [List.mem_singleton] at hp
    rw [hp]; exact h
structure Mgu (σ : Int → Tm) (E : List (Tm × Tm)) : Prop where
  uni : uni σ E
  bare : ∀ v, 0 ≤ v → (σ v).strip = σ v
  idem : ∀ v, 0 ≤ v → ∀ u ∈ (σ v).vs, σ u = varT u
  most : ∀ τ, Go.Proofs.YteegmcfobgpemaaGreat.uni τ E → ∀ v, 0 ≤ v → repT τ (σ v) = (τ v).strip
  low : ∀ v, 0 ≤ v → (σ v).f < 0 → -1 - (σ v).f ≤ v

theorem varT_f (v : Int) : (varT v).f = -1 - v := rfl
theorem rep_varT {τ : Int → Tm} {v : Int} (hv : 0 ≤ v) : repT τ (varT v) = (τ v).strip := by
  rw [repT_var (by rw [varT_f]; omega), varT_f, show -1 - (-1 - v) = v by omega]
theorem rep_f {τ : Int → Tm} {t : Tm} (h : ¬ t.f < 0) : (repT τ t).f = t.f := by rw [repT_sym h]
theorem var_of_rep {τ : Int → Tm} {t : Tm} (h : (repT τ t).f < 0) : t.f < 0 := by
  rcases Decidable.em (t.f < 0) with h1 | h1
  · exact h1
  · rw [rep_f h1] at h; exact h
theorem bare_var {t : Tm} (hb : t.strip = t) (h : t.f < 0) : t = varT (-1 - t.f) := by
  rw [← hb, strip_of_var h]
  unfold varT
  rw [show -1 - (-1 - t.f) = t.f by omega]
theorem rep_idem {σ : Int → Tm} {t : Tm} (h : ∀ u ∈ t.vs, σ u = varT u) : repT σ t = t.strip := by
  rw [rep_congr (g := varT) h, rep_id]

theorem Mgu.stays {σ σ' : Int → Tm} {E : List (Tm × Tm)} (h : Mgu σ E) (h' : Mgu σ' E) {v : Int} (hv : 0 ≤ v) (e : σ v = varT v) : σ' v = varT v := by
  have h1 := h'.most σ h.uni v hv
  rw [h.bare v hv, e] at h1
  have h2 : (σ' v).f < 0 := var_of_rep (τ := σ) (by rw [h1, varT_f]; omega)
  obtain ⟨u, hu⟩ : ∃ u, u = -1 - (σ' v).f := ⟨_, rfl⟩
  have hu0 : 0 ≤ u := by omega
  have h3 : σ' v = varT u := by rw [hu]; exact bare_var (h'.bare v hv) h2
  have h4 : u ≤ v := by rw [hu]; exact h'.low v hv h2
  rw [h3, rep_varT hu0, h.bare u hu0] at h1
  have h5 := h.low u hu0 (by rw [h1, varT_f]; omega)
  rw [h1, varT_f] at h5
  have : u = v := by omega
  rw [h3, this]
theorem Mgu.one {σ σ' : Int → Tm} {E : List (Tm × Tm)} (h : Mgu σ E) (h' : Mgu σ' E) {v : Int} (hv : 0 ≤ v) : σ' v = σ v := by
  have h1 := h.most σ' h'.uni v hv
  rw [h'.bare v hv, rep_idem (fun u hu => h.stays h' (vs_nonneg _ u hu) (h.idem v hv u hu)), h.bare v hv] at h1
  exact h1.symm
theorem Mgu.eqv {σ : Int → Tm} {E F : List (Tm × Tm)} (h : Mgu σ E) (he : ∀ τ, Go.Proofs.YteegmcfobgpemaaGreat.uni τ E ↔ Go.Proofs.YteegmcfobgpemaaGreat.uni τ F) : Mgu σ F :=
  ⟨(he σ).1 h.uni, h.bare, h.idem, fun τ ht => h.most τ ((he τ).2 ht), h.low⟩
theorem Mgu.rep {σ τ : Int → Tm} {E : List (Tm × Tm)} (h : Mgu σ E) (ht : Go.Proofs.YteegmcfobgpemaaGreat.uni τ E) (t : Tm) : repT τ (repT σ t) = repT τ t := by
  rw [rep_two]
  revert t
  refine Tm.ind fun f l ih => ?_
  rcases Decidable.em (f < 0) with hf | hf
  · rw [repT_var (t := ⟨f, l⟩) hf, repT_var (t := ⟨f, l⟩) hf, h.most τ ht _ (by show 0 ≤ -1 - f; omega), Tm.strip_strip]
  · rw [repT_sym (t := ⟨f, l⟩) (by show ¬ f < 0; omega), repT_sym (t := ⟨f, l⟩) (by show ¬ f < 0; omega)]
    show (⟨f, l.map _⟩ : Tm) = ⟨f, l.map _⟩
    congr 1
    exact List.map_congr_left ih
theorem Mgu.rep_vs {σ : Int → Tm} {E : List (Tm × Tm)} (h : Mgu σ E) {t : Tm} {u : Int} (hu : u ∈ (repT σ t).vs) : σ u = varT u := by
  rw [repT_vs, List.mem_flatMap] at hu
  obtain ⟨v, hv, hu⟩ := hu
  exact h.idem v (vs_nonneg _ v hv) u hu
theorem Mgu.nil : Mgu varT [] :=
  ⟨fun p hp => (by cases hp), fun v hv => varT_strip v, fun v hv u hu => rfl, fun τ ht v hv => rep_varT hv, fun v hv hf => by rw [varT_f]; omega⟩

theorem Mgu.same {σ : Int → Tm} {E : List (Tm × Tm)} (h : Mgu σ E) {a b : Tm} (e : repT σ a = repT σ b) : Mgu σ (E ++ [(a, b)]) :=
  h.eqv fun τ => by
    rw [uni_app, uni_one]
    constructor
    · intro ht
      refine ⟨ht, ?_⟩
      rw [← h.rep ht a, e, h.rep ht b]
    · exact fun ht => ht.1
def oneS (x : Int) (b : Tm) (v : Int) : Tm := if v = x then b else varT v
theorem one_off {x : Int} {b t : Tm} (h : x ∉ t.vs) : repT (oneS x b) t = t.strip :=
  rep_idem fun u hu => if_neg fun (e : u = x) => h (e ▸ hu)
theorem Mgu.bind {σ : Int → Tm} {E : List (Tm × Tm)} (h : Mgu σ E) {a b : Tm} {x : Int} (hx : 0 ≤ x) (ha : repT σ a = varT x) (hb : x ∉ (repT σ b).vs) (hlow : (repT σ b).f < 0 → -1 - (repT σ b).f ≤ x) {σ2 : Int → Tm} (h2 : ∀ v, 0 ≤ v → σ2 v = repT (oneS x (repT σ b)) (σ v)) : Mgu σ2 (E ++ [(a, b)]) := by
  obtain ⟨B, hB⟩ : ∃ B, B = repT σ b := ⟨_, rfl⟩
  rw [← hB] at hb hlow h2
  have hBs : B.strip = B := by rw [hB, rep_bare]
  have hr : ∀ t, repT σ2 t = repT (oneS x B) (repT σ t) := fun t => by
    rw [rep_two]
    exact rep_congr fun v hv => h2 v (vs_nonneg _ v hv)
  have hxx : oneS x B x = B := if_pos rfl
  refine ⟨?_, fun v hv => by rw [h2 v hv, rep_bare], fun v hv u hu => ?_, fun τ ht v hv => ?_, fun v hv hf => ?_⟩
  · rw [uni_app, uni_one]
    refine ⟨fun p hp => by rw [hr, hr, h.uni p hp], ?_⟩
    rw [hr, hr, ha, rep_varT hx, hxx, ← hB, one_off hb]
  · rw [h2 v hv, repT_vs, List.mem_flatMap] at hu
    obtain ⟨w, hw, hu⟩ := hu
    have hw0 := vs_nonneg _ w hw
    have : σ u = varT u ∧ u ≠ x := by
      by_cases e : w = x
      · rw [e, hxx] at hu
        refine ⟨h.rep_vs (t := b) (by rw [← hB]; exact hu), fun e => hb (e ▸ hu)⟩
      · unfold oneS at hu
        rw [if_neg e, Tm.vs_var (by rw [varT_f]; omega), varT_f, List.mem_singleton] at hu
        have : u = w := by omega
        rw [this]
        exact ⟨h.idem v hv w hw, e⟩
    have hu0 : 0 ≤ u := vs_nonneg _ u hu
    rw [h2 u hu0, this.1, rep_varT hu0]
    unfold oneS
    rw [if_neg this.2, varT_strip]
  · rw [uni_app, uni_one] at ht
    rw [h2 v hv, rep_two, ← h.most τ ht.1 v hv]
    have : ∀ w ∈ (σ v).vs, repT τ (oneS x B w) = (τ w).strip := fun w hw => by
      have hw0 := vs_nonneg _ w hw
      by_cases e : w = x
      · rw [e, hxx, hB, h.rep ht.1, ← ht.2, ← h.rep ht.1, ha, rep_varT hx]
      · unfold oneS
        rw [if_neg e, rep_varT hw0]
    have h3 : ∀ t : Tm, (∀ w ∈ t.vs, repT τ (oneS x B w) = (τ w).strip) → repT (fun v => repT τ (oneS x B v)) t = repT τ t := by
      refine Tm.ind fun f l ih hw => ?_
      rcases Decidable.em (f < 0) with hf | hf
      · rw [repT_var (t := ⟨f, l⟩) hf, repT_var (t := ⟨f, l⟩) hf, hw _ (by rw [Tm.vs_var (t := ⟨f, l⟩) hf]; simp), Tm.strip_strip]
      · have hf' : ¬ (⟨f, l⟩ : Tm).f < 0 := by show ¬ f < 0; omega
        rw [repT_sym hf', repT_sym hf']
        rw [Tm.vs_sym hf'] at hw
        congr 1
        exact List.map_congr_left fun t ht => ih t ht fun w hw' => hw w (List.mem_flatMap.2 ⟨t, ht, hw'⟩)
    exact h3 _ this
  · rw [h2 v hv] at hf ⊢
    have h4 := var_of_rep hf
    have h5 := h.low v hv h4
    rw [repT_var h4] at hf ⊢
    obtain ⟨w, hw⟩ : ∃ w, w = -1 - (σ v).f := ⟨_, rfl⟩
    rw [← hw] at hf h5 ⊢
    by_cases e : w = x
    · rw [e, hxx, hBs] at hf ⊢
      have := hlow hf
      omega
    · unfold oneS
      rw [if_neg e, varT_strip, varT_f]
      omega
theorem no_occurs {τ : Int → Tm} {x : Int} {t : Tm} (hx : x ∈ t.vs) (ht : ¬ t.f < 0) : repT τ (varT x) ≠ repT τ t := by
  have hx0 := vs_nonneg _ x hx
  have key : ∀ t : Tm, x ∈ t.vs → (repT τ (varT x)).size ≤ (repT τ t).size ∧ (¬ t.f < 0 → (repT τ (varT x)).size < (repT τ t).size) := by
    refine Tm.ind fun f l ih hx => ?_
    rcases Decidable.em (f < 0) with hf | hf
    · rw [Tm.vs_var (t := ⟨f, l⟩) hf, List.mem_singleton] at hx
      refine ⟨?_, fun h => absurd hf h⟩
      rw [rep_varT hx0, repT_var (t := ⟨f, l⟩) hf, ← hx]
      exact Nat.le_refl _
    · have hf' : ¬ (⟨f, l⟩ : Tm).f < 0 := by show ¬ f < 0; omega
      rw [Tm.vs_sym hf', List.mem_flatMap] at hx
      obtain ⟨s, hs, hxs⟩ := hx
      have h1 := (ih s hs hxs).1
      have h2 : (repT τ s).size < (repT τ ⟨f, l⟩).size := by
        refine Tm.size_part ?_
        rw [repT_sym hf', Tm.ps_of_sym (by show 0 ≤ f; omega)]
        exact List.mem_map.2 ⟨s, hs, rfl⟩
      exact ⟨by omega, fun _ => by omega⟩
  intro e
  have := (key t hx).2 ht
  rw [e] at this
  exact Nat.lt_irrefl _ this
structure Joined (N : Nat) (T : Nat → Tm) (H K : Nat → Nat) (E : List (Tm × Tm)) : Prop where
  hd : ∀ n, n < N → H n < N ∧ H (H n) = H n
  low : ∀ n, n < N → (T n).f ≤ (T (H n)).f
  kid : ∀ n, n < N → ¬ (T n).f < 0 → ∀ i p, (T n).l[i]? = some p → K n + i < N ∧ T (K n + i) = p
  cls : ∀ n, n < N → ¬ (T n).f < 0 → (T (H n)).f = (T n).f ∧ (T (H n)).l.length = (T n).l.length ∧ ∀ i, i < (T n).l.length → H (K n + i) = H (K (H n) + i)
  var : ∀ n m, n < N → m < N → (T n).f < 0 → (T n).f = (T m).f → H n = H m
  pair : ∀ p ∈ E, ∃ n m, n < N ∧ m < N ∧ T n = p.1 ∧ T m = p.2 ∧ H n = H m
  sound : ∀ τ, uni τ E → ∀ n, n < N → repT τ (T n) = repT τ (T (H n))

section
variable {N : Nat} {T : Nat → Tm} {H K : Nat → Nat} {E : List (Tm × Tm)}
def OutOk (N : Nat) (T : Nat → Tm) (H K : Nat → Nat) (out : Nat → Tm) : Prop := ∀ h, h < N → H h = h → out h = ⟨(T h).f, if (T h).f < 0 then [] else (List.range (T h).l.length).map fun i => out (H (K h + i))⟩
def Ranked (N : Nat) (T : Nat → Tm) (H K : Nat → Nat) (ρ : Nat → Nat) : Prop := ∀ h, h < N → H h = h → ¬ (T h).f < 0 → ∀ i, i < (T h).l.length → ρ (H (K h + i)) < ρ h

theorem Joined.part (j : Joined N T H K E) {h : Nat} (hN : h < N) (hf : ¬ (T h).f < 0) {i : Nat} (hi : i < (T h).l.length) : K h + i < N ∧ T (K h + i) = (T h).l[i] ∧ H (K h + i) < N ∧ H (H (K h + i)) = H (K h + i) := by
  obtain ⟨h1, h2⟩ := j.kid h hN hf i _ (List.getElem?_eq_getElem hi)
  exact ⟨h1, h2, j.hd _ h1⟩
theorem Joined.ind (j : Joined N T H K E) {ρ : Nat → Nat} (hr : Ranked N T H K ρ) {Q : Nat → Prop} (hQ : ∀ h, h < N → H h = h → (¬ (T h).f < 0 → ∀ i, i < (T h).l.length → Q (H (K h + i))) → Q h) : ∀ h, h < N → H h = h → Q h := by
  intro h
  induction e : ρ h using Nat.strongRecOn generalizing h with
  | ind k ih =>
    intro hN hh
    refine hQ h hN hh fun hf i hi => ?_
    obtain ⟨_, _, h3, h4⟩ := j.part hN hf hi
    exact ih _ (by rw [← e]; exact hr h hN hh hf i hi) _ rfl h3 h4
theorem out_var {out : Nat → Tm} (ho : OutOk N T H K out) {h : Nat} (hN : h < N) (hh : H h = h) (hf : (T h).f < 0) : out h = ⟨(T h).f, []⟩ := by rw [ho h hN hh, if_pos hf]
theorem out_sym {out : Nat → Tm} (ho : OutOk N T H K out) {h : Nat} (hN : h < N) (hh : H h = h) (hf : ¬ (T h).f < 0) : out h = ⟨(T h).f, (List.range (T h).l.length).map fun i => out (H (K h + i))⟩ := by rw [ho h hN hh, if_neg hf]
theorem out_f {out : Nat → Tm} (ho : OutOk N T H K out) {h : Nat} (hN : h < N) (hh : H h = h) : (out h).f = (T h).f := by rw [ho h hN hh]
theorem map_range {l : List Tm} {g g' : Tm → Tm} {q : Nat → Tm} (h : ∀ i (hi : i < l.length), g l[i] = g' (q i)) : l.map g = ((List.range l.length).map q).map g' := by
  apply List.ext_getElem
  · simp
  · intro i h1 h2
    simp only [List.getElem_map, List.getElem_range]
    exact h i (by simpa using h1)
theorem Joined.out_bare (j : Joined N T H K E) {ρ : Nat → Nat} (hr : Ranked N T H K ρ) {out : Nat → Tm} (ho : OutOk N T H K out) : ∀ h, h < N → H h = h → (out h).strip = out h :=
  j.ind hr fun h hN hh ih => by
    by_cases hf : (T h).f < 0
    · rw [out_var ho hN hh hf, strip_of_var (t := ⟨(T h).f, []⟩) hf]
    · rw [out_sym ho hN hh hf, Tm.strip_eq, Tm.ps_of_sym (t := ⟨(T h).f, _⟩) (by show 0 ≤ (T h).f; omega)]
      congr 1
      rw [List.map_map]
      exact List.map_congr_left fun i hi => ih hf i (List.mem_range.1 hi)
structure Says (N : Nat) (T : Nat → Tm) (H : Nat → Nat) (out : Nat → Tm) (σ : Int → Tm) : Prop where
  at_ : ∀ n, n < N → (T n).f < 0 → σ (-1 - (T n).f) = out (H n)
  off : ∀ v, 0 ≤ v → (∀ n, n < N → (T n).f ≠ -1 - v) → σ v = varT v
theorem Joined.rep (j : Joined N T H K E) {ρ : Nat → Nat} (hr : Ranked N T H K ρ) {out : Nat → Tm} (ho : OutOk N T H K out) {σ : Int → Tm} (hs : Says N T H out σ) : ∀ (t : Tm) (n : Nat), n < N → T n = t → repT σ t = out (H n) := by
  refine Tm.ind fun f l ih n hN e => ?_
  obtain ⟨hH, hHH⟩ := j.hd n hN
  by_cases hf : f < 0
  · have := hs.at_ n hN (by rw [e]; exact hf)
    rw [e] at this
    rw [repT_var (t := ⟨f, l⟩) hf, this, j.out_bare hr ho _ hH hHH]
  · have hfn : ¬ (T n).f < 0 := by rw [e]; exact hf
    obtain ⟨c1, c2, c3⟩ := j.cls n hN hfn
    rw [repT_sym (t := ⟨f, l⟩) hf, out_sym ho hH hHH (by rw [c1]; exact hfn), c1, c2, e]
    congr 1
    have := map_range (l := l) (g := repT σ) (g' := id) (q := fun i => out (H (K (H n) + i))) fun i hi => by
      have hi' : i < (T n).l.length := by rw [e]; exact hi
      obtain ⟨p1, p2, _⟩ := j.part hN hfn hi'
      have p3 : (T n).l[i] = l[i] := by simp only [e]
      rw [ih l[i] (List.getElem_mem hi) (K n + i) p1 (by rw [p2, p3]), c3 i hi']
      rfl
    rw [this, List.map_id]
theorem Joined.most (j : Joined N T H K E) {ρ : Nat → Nat} (hr : Ranked N T H K ρ) {out : Nat → Tm} (ho : OutOk N T H K out) {τ : Int → Tm} (ht : uni τ E) : ∀ h, h < N → H h = h → repT τ (out h) = repT τ (T h) :=
  j.ind hr fun h hN hh ih => by
    by_cases hf : (T h).f < 0
    · rw [out_var ho hN hh hf, repT_var (t := ⟨(T h).f, []⟩) hf, repT_var hf]
    · rw [out_sym ho hN hh hf, repT_sym (t := ⟨(T h).f, _⟩) hf, repT_sym hf]
      congr 1
      refine (map_range fun i hi => ?_).symm
      obtain ⟨p1, p2, _⟩ := j.part hN hf hi
      rw [ih hf i hi, ← j.sound τ ht _ p1, p2]
theorem Joined.idem (j : Joined N T H K E) {ρ : Nat → Nat} (hr : Ranked N T H K ρ) {out : Nat → Tm} (ho : OutOk N T H K out) {σ : Int → Tm} (hs : Says N T H out σ) : ∀ h, h < N → H h = h → ∀ u ∈ (out h).vs, σ u = varT u :=
  j.ind hr fun h hN hh ih u hu => by
    by_cases hf : (T h).f < 0
    · have h1 := out_var ho hN hh hf
      rw [h1, Tm.vs_var (t := ⟨(T h).f, []⟩) hf, List.mem_singleton] at hu
      have h2 := hs.at_ h hN hf
      rw [hh, h1] at h2
      have hu : u = -1 - (T h).f := hu
      rw [hu, h2]
      unfold varT
      rw [show -1 - (-1 - (T h).f) = (T h).f by omega]
    · rw [out_sym ho hN hh hf, Tm.vs_sym (t := ⟨(T h).f, _⟩) hf, List.mem_flatMap] at hu
      obtain ⟨t, ht, hu⟩ := hu
      obtain ⟨i, hi, rfl⟩ := List.mem_map.1 ht
      exact ih hf i (List.mem_range.1 hi) u hu
theorem Joined.mgu (j : Joined N T H K E) {ρ : Nat → Nat} (hr : Ranked N T H K ρ) {out : Nat → Tm} (ho : OutOk N T H K out) {σ : Int → Tm} (hs : Says N T H out σ) : Mgu σ E := by
  have two : ∀ v, 0 ≤ v → (∃ n, n < N ∧ (T n).f = -1 - v ∧ σ v = out (H n)) ∨ σ v = varT v := fun v hv => by
    by_cases h : ∃ n, n < N ∧ (T n).f = -1 - v
    · obtain ⟨n, h1, h2⟩ := h
      have := hs.at_ n h1 (by omega)
      rw [h2, show -1 - (-1 - v) = v by omega] at this
      exact .inl ⟨n, h1, h2, this⟩
    · exact .inr (hs.off v hv fun n h1 h2 => h ⟨n, h1, h2⟩)
  refine ⟨fun p hp => ?_, fun v hv => ?_, fun v hv u hu => ?_, fun τ ht v hv => ?_, fun v hv hf => ?_⟩
  · obtain ⟨n, m, h1, h2, h3, h4, h5⟩ := j.pair p hp
    rw [j.rep hr ho hs p.1 n h1 h3, j.rep hr ho hs p.2 m h2 h4, h5]
  · rcases two v hv with ⟨n, h1, h2, h3⟩ | h3
    · rw [h3, j.out_bare hr ho _ (j.hd n h1).1 (j.hd n h1).2]
    · rw [h3, varT_strip]
  · rcases two v hv with ⟨n, h1, h2, h3⟩ | h3
    · rw [h3] at hu
      exact j.idem hr ho hs _ (j.hd n h1).1 (j.hd n h1).2 u hu
    · rw [h3, Tm.vs_var (by rw [varT_f]; omega), varT_f, List.mem_singleton] at hu
      rw [show u = v by omega]; exact h3
  · rcases two v hv with ⟨n, h1, h2, h3⟩ | h3
    · rw [h3, j.most hr ho ht _ (j.hd n h1).1 (j.hd n h1).2, ← j.sound τ ht n h1, repT_var (by omega), h2, show -1 - (-1 - v) = v by omega]
    · rw [h3, rep_varT hv]
  · rcases two v hv with ⟨n, h1, h2, h3⟩ | h3
    · have := j.low n h1
      rw [h3, out_f ho (j.hd n h1).1 (j.hd n h1).2]
      omega
    · rw [h3, varT_f]; omega
theorem Joined.no (j : Joined N T H K E) {O : Nat → Prop} (hO : ∀ h, h < N → H h = h → ¬ O h → ∃ g, g < N ∧ H g = g ∧ ¬ O g ∧ ¬ (T g).f < 0 ∧ ∃ i, i < (T g).l.length ∧ H (K g + i) = h) {h0 : Nat} (hN0 : h0 < N) (hh0 : H h0 = h0) (hn0 : ¬ O h0) (τ : Int → Tm) : ¬ uni τ E := by
  intro ht
  have up : ∀ k : Nat, ∃ h, h < N ∧ H h = h ∧ ¬ O h ∧ k ≤ (repT τ (T h)).size := fun k => by
    induction k with
    | zero => exact ⟨h0, hN0, hh0, hn0, Nat.zero_le _⟩
    | succ k ih =>
      obtain ⟨h, h1, h2, h3, h4⟩ := ih
      obtain ⟨g, g1, g2, g3, g4, i, g5, g6⟩ := hO h h1 h2 h3
      refine ⟨g, g1, g2, g3, ?_⟩
      obtain ⟨p1, p2, _⟩ := j.part g1 g4 g5
      have h5 : repT τ (T h) = repT τ (T g).l[i] := by rw [← g6, ← j.sound τ ht _ p1, p2]
      have h6 : (repT τ (T g).l[i]).size < (repT τ (T g)).size := by
        refine Tm.size_part ?_
        rw [repT_sym g4, Tm.ps_of_sym (t := ⟨(T g).f, _⟩) (by show 0 ≤ (T g).f; omega)]
        exact List.mem_map.2 ⟨_, List.getElem_mem g5, rfl⟩
      rw [h5] at h4
      omega
  have top : ∀ M : Nat, ∃ B, ∀ n, n < M → (repT τ (T n)).size ≤ B := fun M => by
    induction M with
    | zero => exact ⟨0, fun n hn => by omega⟩
    | succ M ih =>
      obtain ⟨B, hB⟩ := ih
      refine ⟨max B (repT τ (T M)).size, fun n hn => ?_⟩
      rcases Nat.lt_or_ge n M with h | h
      · exact Nat.le_trans (hB n h) (Nat.le_max_left _ _)
      · rw [show n = M by omega]; exact Nat.le_max_right _ _
  obtain ⟨B, hB⟩ := top N
  obtain ⟨h, h1, _, _, h4⟩ := up (B + 1)
  have := hB h h1
  omega
end
def lookV : List (Int × Nat) → Int → Option Nat
  | [], _ => none
  | p :: l, v => if p.1 = v then some p.2 else lookV l v
theorem lookV_snoc (l : List (Int × Nat)) (u : Int) (n : Nat) (v : Int) : lookV (l ++ [(u, n)]) v = (lookV l v).or (if u = v then some n else none) := by
  induction l with
  | nil => rfl
  | cons p l ih =>
    rw [List.cons_append, lookV, lookV]
    split
    · rfl
    · exact ih
def Con (N : Nat) (H : Nat → Nat) (ps : List (Nat × Nat)) (x y : Nat) : Prop := ∀ G : Nat → Nat, (∀ m, m < N → G m = G (H m)) → (∀ p ∈ ps, G p.1 = G p.2) → G x = G y
structure Cls (N : Nat) (T : Nat → Tm) (K U H r : Nat → Nat) (vr : List (Int × Nat)) (ps : List (Nat × Nat)) (E : List (Tm × Tm)) : Prop where
  hd : ∀ n, n < N → H n < N ∧ H (H n) = H n
  up : ∀ n, n < N → U n < N ∧ H (U n) = H n ∧ (H n = n → U n = n)
  rank : ∀ n, n < N → H n ≠ n → r (U n) < r n
  low : ∀ n, n < N → (T n).f ≤ (T (H n)).f
  kid : ∀ n, n < N → K n ≠ 0 → ¬ (T n).f < 0 ∧ ∀ i, i < (T n).l.length → K n + i < N ∧ (T n).l[i]? = some (T (K n + i))
  vrs : ∀ n, n < N → (T n).f < 0 → ∃ m, lookV vr (-1 - (T n).f) = some m ∧ H n = H m
  vrt : ∀ v m, lookV vr v = some m → m < N ∧ (T m).f = -1 - v
  cls : ∀ n, n < N → ¬ (T n).f < 0 → H n ≠ n → (T (H n)).f = (T n).f ∧ (T (H n)).l.length = (T n).l.length ∧ ((T n).l.length ≠ 0 → K n ≠ 0 ∧ K (H n) ≠ 0) ∧ ∀ i, i < (T n).l.length → Con N H ps (K n + i) (K (H n) + i)
  pss : ∀ p ∈ ps, p.1 < N ∧ p.2 < N
  pair : ∀ p ∈ E, ∃ n m, n < N ∧ m < N ∧ T n = p.1 ∧ T m = p.2 ∧ Con N H ps n m
  sound : ∀ τ, uni τ E → (∀ n, n < N → repT τ (T n) = repT τ (T (H n))) ∧ ∀ p ∈ ps, repT τ (T p.1) = repT τ (T p.2)

section
variable {N : Nat} {T : Nat → Tm} {K U H r : Nat → Nat} {vr : List (Int × Nat)} {ps : List (Nat × Nat)} {E : List (Tm × Tm)}
def upd {α : Type} (f : Nat → α) (n : Nat) (x : α) (m : Nat) : α := if m = n then x else f m
theorem upd_same {α : Type} {f : Nat → α} {n : Nat} {x : α} : upd f n x n = x := if_pos rfl
theorem upd_ne {α : Type} {f : Nat → α} {n m : Nat} {x : α} (h : m ≠ n) : upd f n x m = f m := if_neg h

theorem Cls.nil : Cls 0 T K U H r [] [] [] :=
  ⟨fun n h => by omega, fun n h => by omega, fun n h => by omega, fun n h => by omega, fun n h => by omega, fun n h => by omega, fun v m h => (by cases h), fun n h => by omega, fun p h => (by cases h), fun p h => (by cases h), fun τ _ => ⟨fun n h => by omega, fun p h => (by cases h)⟩⟩

theorem Cls.add (h : Cls N T K U H r vr ps E) {t : Tm} {u : Nat} {vr' : List (Int × Nat)} (hu : u ≤ N) (hb : u < N → t.f < 0 ∧ (T u).f = t.f) (hv1 : ∀ v m, lookV vr v = some m → lookV vr' v = some m) (hv2 : ∀ v m, lookV vr' v = some m → lookV vr v = some m ∨ (m = N ∧ t.f = -1 - v)) (hv3 : t.f < 0 → lookV vr' (-1 - t.f) = some u) :
    Cls (N + 1) (upd T N t) (upd K N 0) (upd U N u) (upd H N (if u = N then N else H u)) (upd r N (if u = N then 0 else r u + 1)) vr' ps E := by
  have hH : ∀ {n}, n < N → upd H N (if u = N then N else H u) n = H n := fun hn => upd_ne (by omega)
  have hT : ∀ {n}, n < N → upd T N t n = T n := fun hn => upd_ne (by omega)
  have hK : ∀ {n}, n < N → upd K N 0 n = K n := fun hn => upd_ne (by omega)
  have hU : ∀ {n}, n < N → upd U N u n = U n := fun hn => upd_ne (by omega)
  have hr : ∀ {n}, n < N → upd r N (if u = N then 0 else r u + 1) n = r n := fun hn => upd_ne (by omega)
  have con : ∀ {x y}, Con N H ps x y → Con (N + 1) (upd H N (if u = N then N else H u)) ps x y := fun hc G g1 g2 => hc G (fun m hm => by have := g1 m (by omega); rw [hH hm] at this; exact this) g2
  have two : ∀ {n}, n < N + 1 → n < N ∨ n = N := fun hn => by omega
  refine ⟨fun n hn => ?_, fun n hn => ?_, fun n hn hne => ?_, fun n hn => ?_, fun n hn hk => ?_, fun n hn hf => ?_, fun v m hl => ?_, fun n hn hf hne => ?_, fun p hp => ?_, fun p hp => ?_, fun τ ht => ?_⟩
  · rcases two hn with hn | rfl
    · have := h.hd n hn
      rw [hH hn, hH this.1]
      exact ⟨by omega, this.2⟩
    · rw [upd_same]
      split
      · exact ⟨by omega, by rw [upd_same]⟩
      · have := h.hd u (by omega)
        rw [upd_ne (by omega)]
        exact ⟨by omega, this.2⟩
  · rcases two hn with hn | rfl
    · have := h.up n hn
      rw [hU hn, hH hn, hH this.1]
      exact ⟨by omega, this.2⟩
    · rw [upd_same, upd_same]
      by_cases e : u = n
      · rw [if_pos e, e, upd_same]
        exact ⟨by omega, by simp, fun _ => rfl⟩
      · rw [if_neg e, upd_ne e]
        refine ⟨by omega, rfl, fun e2 => ?_⟩
        have := (h.hd u (by omega)).1
        omega
  · rcases two hn with hn | rfl
    · rw [hH hn] at hne
      rw [hU hn, hr hn, hr (h.up n hn).1]
      exact h.rank n hn hne
    · rw [upd_same] at hne
      rw [upd_same, upd_same]
      by_cases e : u = n
      · rw [if_pos e] at hne; exact absurd rfl hne
      · rw [if_neg e, upd_ne e]; omega
  · rcases two hn with hn | rfl
    · rw [hH hn, hT hn, hT (h.hd n hn).1]; exact h.low n hn
    · rw [upd_same, upd_same]
      by_cases e : u = n
      · rw [if_pos e, upd_same]; exact Int.le_refl _
      · rw [if_neg e]
        have h1 := h.hd u (by omega)
        have h2 := h.low u (by omega)
        rw [hT h1.1, ← (hb (by omega)).2]
        exact h2
  · rcases two hn with hn | rfl
    · rw [hK hn] at hk ⊢
      rw [hT hn]
      obtain ⟨h1, h2⟩ := h.kid n hn hk
      refine ⟨h1, fun i hi => ?_⟩
      have := h2 i hi
      rw [hT this.1]
      exact ⟨by omega, this.2⟩
    · rw [upd_same] at hk; exact absurd rfl hk
  · rcases two hn with hn | rfl
    · rw [hT hn] at hf ⊢
      obtain ⟨m, h1, h2⟩ := h.vrs n hn hf
      have := (h.vrt _ m h1).1
      exact ⟨m, hv1 _ _ h1, by rw [hH hn, hH this, h2]⟩
    · rw [upd_same] at hf ⊢
      refine ⟨u, hv3 hf, ?_⟩
      rw [upd_same]
      by_cases e : u = n
      · rw [if_pos e, e, upd_same]
      · rw [if_neg e, upd_ne e]
  · rcases hv2 v m hl with h1 | ⟨rfl, h1⟩
    · have := h.vrt v m h1
      rw [hT this.1]
      exact ⟨by omega, this.2⟩
    · rw [upd_same]; exact ⟨by omega, h1⟩
  · rcases two hn with hn | rfl
    · have h1 := (h.hd n hn).1
      rw [hT hn] at hf ⊢
      rw [hH hn] at hne ⊢
      rw [hT h1, hK hn, hK h1]
      obtain ⟨c1, c2, c3, c4⟩ := h.cls n hn hf hne
      exact ⟨c1, c2, c3, fun i hi => con (c4 i hi)⟩
    · rw [upd_same] at hf hne
      by_cases e : u = n
      · rw [if_pos e] at hne; exact absurd rfl hne
      · exact absurd (hb (by omega)).1 hf
  · have := h.pss p hp; exact ⟨by omega, by omega⟩
  · obtain ⟨n, m, h1, h2, h3, h4, h5⟩ := h.pair p hp
    exact ⟨n, m, by omega, by omega, by rw [hT h1]; exact h3, by rw [hT h2]; exact h4, con h5⟩
  · obtain ⟨s1, s2⟩ := h.sound τ ht
    refine ⟨fun n hn => ?_, fun p hp => ?_⟩
    · rcases two hn with hn | rfl
      · rw [hH hn, hT hn, hT (h.hd n hn).1]; exact s1 n hn
      · rw [upd_same, upd_same]
        by_cases e : u = n
        · rw [if_pos e, upd_same]
        · have hu' : u < n := by omega
          rw [if_neg e, hT (h.hd u hu').1, ← s1 u hu']
          obtain ⟨f1, f2⟩ := hb hu'
          rw [repT_var f1, repT_var (by rw [f2]; exact f1), f2]
    · have := h.pss p hp
      rw [hT this.1, hT this.2]
      exact s2 p hp
theorem Cls.setK (h : Cls N T K U H r vr ps E) {n k : Nat} (hn : n < N) (hk : K n = 0) (hf : ¬ (T n).f < 0) (hp : ∀ i, i < (T n).l.length → k + i < N ∧ (T n).l[i]? = some (T (k + i))) : Cls N T (upd K n k) U H r vr ps E := by
  refine ⟨h.hd, h.up, h.rank, h.low, fun m hm h1 => ?_, h.vrs, h.vrt, fun m hm h1 h2 => ?_, h.pss, h.pair, h.sound⟩
  · by_cases e : m = n
    · subst e; rw [upd_same]; exact ⟨hf, hp⟩
    · rw [upd_ne e] at h1 ⊢; exact h.kid m hm h1
  · obtain ⟨c1, c2, c3, c4⟩ := h.cls m hm h1 h2
    refine ⟨c1, c2, fun h3 => ?_, fun i hi => ?_⟩
    · obtain ⟨d1, d2⟩ := c3 h3
      rw [upd_ne (m := m) (fun e => d1 (by rw [e]; exact hk)), upd_ne (m := H m) (fun e => d2 (by rw [e]; exact hk))]
      exact ⟨d1, d2⟩
    · obtain ⟨d1, d2⟩ := c3 (by omega)
      rw [upd_ne (m := m) (fun e => d1 (by rw [e]; exact hk)), upd_ne (m := H m) (fun e => d2 (by rw [e]; exact hk))]
      exact c4 i hi
theorem Cls.halve (h : Cls N T K U H r vr ps E) {n : Nat} (hn : n < N) : Cls N T K (upd U n (U (U n))) H r vr ps E := by
  obtain ⟨u1, u2, u3⟩ := h.up n hn
  obtain ⟨v1, v2, v3⟩ := h.up (U n) u1
  refine ⟨h.hd, fun m hm => ?_, fun m hm h1 => ?_, h.low, h.kid, h.vrs, h.vrt, h.cls, h.pss, h.pair, h.sound⟩
  · by_cases e : m = n
    · subst e
      rw [upd_same]
      exact ⟨v1, by rw [v2, u2], fun e => by rw [u3 e]; exact u3 e⟩
    · rw [upd_ne e]; exact h.up m hm
  · by_cases e : m = n
    · subst e
      rw [upd_same]
      have h2 := h.rank m hm h1
      by_cases e2 : H (U m) = U m
      · rw [v3 e2]; exact h2
      · have := h.rank (U m) u1 e2; omega
    · rw [upd_ne e]; exact h.rank m hm h1
theorem Cls.drop {x y : Nat} (h : Cls N T K U H r vr (ps ++ [(x, y)]) E) (e : H x = H y) : Cls N T K U H r vr ps E := by
  have hxy := h.pss (x, y) (by simp)
  have con : ∀ {p q}, Con N H (ps ++ [(x, y)]) p q → Con N H ps p q := fun hc G g1 g2 => hc G g1 fun p hp => by
    rcases List.mem_append.1 hp with hp | hp
    · exact g2 p hp
    · rw [List.mem_singleton] at hp
      rw [hp]
      show G x = G y
      rw [g1 x hxy.1, g1 y hxy.2, e]
  refine ⟨h.hd, h.up, h.rank, h.low, h.kid, h.vrs, h.vrt, fun n hn h1 h2 => ?_, fun p hp => h.pss p (List.mem_append_left _ hp), fun p hp => ?_, fun τ ht => ⟨(h.sound τ ht).1, fun p hp => (h.sound τ ht).2 p (List.mem_append_left _ hp)⟩⟩
  · obtain ⟨c1, c2, c3, c4⟩ := h.cls n hn h1 h2
    exact ⟨c1, c2, c3, fun i hi => con (c4 i hi)⟩
  · obtain ⟨n, m, h1, h2, h3, h4, h5⟩ := h.pair p hp
    exact ⟨n, m, h1, h2, h3, h4, con h5⟩
theorem Cls.push (h : Cls N T K U H r vr ps E) {n m : Nat} (hn : n < N) (hm : m < N) : Cls N T K U H r vr (ps ++ [(n, m)]) (E ++ [(T n, T m)]) := by
  have con : ∀ {p q}, Con N H ps p q → Con N H (ps ++ [(n, m)]) p q := fun hc G g1 g2 => hc G g1 fun p hp => g2 p (List.mem_append_left _ hp)
  refine ⟨h.hd, h.up, h.rank, h.low, h.kid, h.vrs, h.vrt, fun a ha h1 h2 => ?_, fun p hp => ?_, fun p hp => ?_, fun τ ht => ?_⟩
  · obtain ⟨c1, c2, c3, c4⟩ := h.cls a ha h1 h2
    exact ⟨c1, c2, c3, fun i hi => con (c4 i hi)⟩
  · rcases List.mem_append.1 hp with hp | hp
    · exact h.pss p hp
    · rw [List.mem_singleton] at hp; rw [hp]; exact ⟨hn, hm⟩
  · rcases List.mem_append.1 hp with hp | hp
    · obtain ⟨a, b, h1, h2, h3, h4, h5⟩ := h.pair p hp
      exact ⟨a, b, h1, h2, h3, h4, con h5⟩
    · rw [List.mem_singleton] at hp
      rw [hp]
      exact ⟨n, m, hn, hm, rfl, rfl, fun G _ g2 => g2 (n, m) (by simp)⟩
  · rw [uni_app, uni_one] at ht
    obtain ⟨s1, s2⟩ := h.sound τ ht.1
    refine ⟨s1, fun p hp => ?_⟩
    rcases List.mem_append.1 hp with hp | hp
    · exact s2 p hp
    · rw [List.mem_singleton] at hp; rw [hp]; exact ht.2
theorem Cls.union {x y : Nat} (h : Cls N T K U H r vr (ps ++ [(x, y)]) E) {a b : Nat} (ha : a < N) (hb : b < N) (hha : H a = a) (hhb : H b = b) (hab : a ≠ b) (hxy : (H x = a ∧ H y = b) ∨ (H x = b ∧ H y = a)) (hlow : (T a).f ≤ (T b).f) {qs : List (Nat × Nat)}
    (hs : ¬ (T a).f < 0 → (T b).f = (T a).f ∧ (T b).l.length = (T a).l.length ∧ ((T a).l.length ≠ 0 → K a ≠ 0 ∧ K b ≠ 0) ∧ ∀ i, i < (T a).l.length → (K a + i, K b + i) ∈ qs)
    (hq : ∀ q ∈ qs, ¬ (T a).f < 0 ∧ ∃ i, i < (T a).l.length ∧ q = (K a + i, K b + i)) :
    Cls N T K (upd U a b) (fun m => if H m = a then b else H m) (fun m => if H m = a then r m + r b + 1 else r m) vr (ps ++ qs) E := by
  have hxyN := h.pss (x, y) (by simp)
  obtain ⟨H', hH'⟩ : ∃ H' : Nat → Nat, H' = fun m => if H m = a then b else H m := ⟨_, rfl⟩
  have e1 : ∀ {m}, H m = a → H' m = b := fun e => by rw [hH']; exact if_pos e
  have e2 : ∀ {m}, H m ≠ a → H' m = H m := fun e => by rw [hH']; exact if_neg e
  rw [← hH']
  have hkids : ¬ (T a).f < 0 → ∀ i, i < (T a).l.length → K a + i < N ∧ K b + i < N ∧ (T a).l[i]? = some (T (K a + i)) ∧ (T b).l[i]? = some (T (K b + i)) := fun hf i hi => by
    obtain ⟨_, s2, s3, _⟩ := hs hf
    obtain ⟨k1, k2⟩ := s3 (by omega)
    have p1 := (h.kid a ha k1).2 i hi
    have p2 := (h.kid b hb k2).2 i (by omega)
    exact ⟨p1.1, p2.1, p1.2, p2.2⟩
  -- what respects the new classes respects the old ones
  have resp : ∀ G : Nat → Nat, (∀ m, m < N → G m = G (H' m)) → (∀ p ∈ ps ++ qs, G p.1 = G p.2) → (∀ m, m < N → G m = G (H m)) ∧ ∀ p ∈ ps ++ [(x, y)], G p.1 = G p.2 := fun G g1 g2 => by
    have g3 : ∀ m, m < N → G m = G (H m) := fun m hm => by
      by_cases e : H m = a
      · rw [g1 m hm, e1 e, e, g1 a ha, e1 hha]
      · rw [g1 m hm, e2 e]
    refine ⟨g3, fun p hp => ?_⟩
    rcases List.mem_append.1 hp with hp | hp
    · exact g2 p (List.mem_append_left _ hp)
    · rw [List.mem_singleton] at hp
      rw [hp]
      show G x = G y
      have g4 : G a = G b := by rw [g1 a ha, e1 hha]
      rw [g3 x hxyN.1, g3 y hxyN.2]
      rcases hxy with ⟨c1, c2⟩ | ⟨c1, c2⟩
      · rw [c1, c2, g4]
      · rw [c1, c2, g4]
  have con : ∀ {p q}, Con N H (ps ++ [(x, y)]) p q → Con N H' (ps ++ qs) p q := fun hc G g1 g2 => hc G (resp G g1 g2).1 (resp G g1 g2).2
  have hba : H b ≠ a := by rw [hhb]; exact Ne.symm hab
  refine ⟨fun n hn => ?_, fun n hn => ?_, fun n hn hne => ?_, fun n hn => ?_, h.kid, fun n hn hf => ?_, h.vrt, fun n hn hf hne => ?_, fun p hp => ?_, fun p hp => ?_, fun τ ht => ?_⟩
  · by_cases e : H n = a
    · rw [e1 e, e2 hba]; exact ⟨hb, hhb⟩
    · have := h.hd n hn
      rw [e2 e, e2 (by rw [this.2]; exact e)]; exact this
  · obtain ⟨u1, u2, u3⟩ := h.up n hn
    by_cases e : n = a
    · subst e
      rw [upd_same, e1 hha, e2 hba]
      exact ⟨hb, hhb, fun e => e⟩
    · rw [upd_ne e]
      by_cases e3 : H n = a
      · rw [e1 e3, e1 (by rw [u2]; exact e3)]
        exact ⟨u1, rfl, fun e4 => by rw [← e4, hhb] at e3; exact absurd e3.symm hab⟩
      · rw [e2 e3, e2 (by rw [u2]; exact e3)]
        exact ⟨u1, u2, u3⟩
  · obtain ⟨u1, u2, u3⟩ := h.up n hn
    by_cases e : n = a
    · subst e
      rw [upd_same, if_neg hba, if_pos hha]; omega
    · rw [upd_ne e]
      by_cases e3 : H n = a
      · have := h.rank n hn (by rw [e3]; exact Ne.symm e)
        rw [if_pos e3, if_pos (by rw [u2]; exact e3)]; omega
      · rw [e2 e3] at hne
        rw [if_neg e3, if_neg (by rw [u2]; exact e3)]
        exact h.rank n hn hne
  · have := h.low n hn
    by_cases e : H n = a
    · rw [e1 e]; rw [e] at this; omega
    · rw [e2 e]; exact this
  · obtain ⟨m, h1, h2⟩ := h.vrs n hn hf
    refine ⟨m, h1, ?_⟩
    by_cases e : H n = a
    · rw [e1 e, e1 (by rw [← h2]; exact e)]
    · rw [e2 e, e2 (by rw [← h2]; exact e), h2]
  · by_cases e : H n = a
    · rw [e1 e]
      by_cases e3 : n = a
      · subst e3
        obtain ⟨s1, s2, s3, s4⟩ := hs hf
        exact ⟨s1, s2, s3, fun i hi G g1 g2 => g2 _ (List.mem_append_right _ (s4 i hi))⟩
      · obtain ⟨c1, c2, c3, c4⟩ := h.cls n hn hf (by rw [e]; exact Ne.symm e3)
        rw [e] at c1 c2 c3 c4
        obtain ⟨s1, s2, s3, s4⟩ := hs (by rw [c1]; exact hf)
        refine ⟨by rw [s1, c1], by rw [s2, c2], fun h5 => ⟨(c3 h5).1, (s3 (by rw [c2]; exact h5)).2⟩, fun i hi G g1 g2 => ?_⟩
        rw [con (c4 i hi) G g1 g2]
        exact g2 _ (List.mem_append_right _ (s4 i (by rw [c2]; exact hi)))
    · rw [e2 e] at hne ⊢
      obtain ⟨c1, c2, c3, c4⟩ := h.cls n hn hf hne
      exact ⟨c1, c2, c3, fun i hi => con (c4 i hi)⟩
  · rcases List.mem_append.1 hp with hp | hp
    · exact h.pss p (List.mem_append_left _ hp)
    · obtain ⟨hf, i, hi, e⟩ := hq p hp
      have := hkids hf i hi
      rw [e]
      exact ⟨this.1, this.2.1⟩
  · obtain ⟨n, m, h1, h2, h3, h4, h5⟩ := h.pair p hp
    exact ⟨n, m, h1, h2, h3, h4, con h5⟩
  · obtain ⟨s1, s2⟩ := h.sound τ ht
    have hxy2 : repT τ (T x) = repT τ (T y) := s2 (x, y) (by simp)
    have hab2 : repT τ (T a) = repT τ (T b) := by
      rw [s1 x hxyN.1, s1 y hxyN.2] at hxy2
      rcases hxy with ⟨c1, c2⟩ | ⟨c1, c2⟩
      · rw [c1, c2] at hxy2; exact hxy2
      · rw [c1, c2] at hxy2; exact hxy2.symm
    refine ⟨fun n hn => ?_, fun p hp => ?_⟩
    · by_cases e : H n = a
      · rw [e1 e, s1 n hn, e, hab2]
      · rw [e2 e]; exact s1 n hn
    · rcases List.mem_append.1 hp with hp | hp
      · exact s2 p (List.mem_append_left _ hp)
      · obtain ⟨hf, i, hi, e⟩ := hq p hp
        obtain ⟨_, _, k3, k4⟩ := hkids hf i hi
        rw [e]
        obtain ⟨s3, s4, _⟩ := hs hf
        rw [repT_sym hf, repT_sym (by rw [s3]; exact hf)] at hab2
        have := congrArg (fun t : Tm => t.l[i]?) hab2
        simp only [List.getElem?_map, k3, k4, Option.map_some, Option.some.injEq] at this
        exact this
theorem Cls.clash {x y : Nat} (h : Cls N T K U H r vr (ps ++ [(x, y)]) E) {a b : Nat} (hxy : (H x = a ∧ H y = b) ∨ (H x = b ∧ H y = a)) (hfa : ¬ (T a).f < 0) (hfb : ¬ (T b).f < 0) (hc : (T a).f ≠ (T b).f ∨ (T a).l.length ≠ (T b).l.length) (τ : Int → Tm) : ¬ uni τ E := by
  intro ht
  have hxyN := h.pss (x, y) (by simp)
  obtain ⟨s1, s2⟩ := h.sound τ ht
  have hxy2 : repT τ (T x) = repT τ (T y) := s2 (x, y) (by simp)
  have hab2 : repT τ (T a) = repT τ (T b) := by
    rw [s1 x hxyN.1, s1 y hxyN.2] at hxy2
    rcases hxy with ⟨c1, c2⟩ | ⟨c1, c2⟩
    · rw [c1, c2] at hxy2; exact hxy2
    · rw [c1, c2] at hxy2; exact hxy2.symm
  rw [repT_sym hfa, repT_sym hfb] at hab2
  have h4 := congrArg Tm.f hab2
  have h5 := congrArg (fun t : Tm => t.l.length) hab2
  simp only [List.length_map] at h4 h5
  rcases hc with hc | hc
  · exact hc h4
  · exact hc h5
theorem Cls.joined (h : Cls N T K U H r vr [] E) (hk : ∀ n, n < N → ¬ (T n).f < 0 → (T n).l.length ≠ 0 → K n ≠ 0) : Joined N T H K E := by
  have con : ∀ {p q}, Con N H [] p q → H p = H q := fun hc => hc H (fun m hm => (h.hd m hm).2.symm) (fun p hp => by cases hp)
  refine ⟨h.hd, h.low, fun n hn hf i p hp => ?_, fun n hn hf => ?_, fun n m hn hm hf e => ?_, fun p hp => ?_, fun τ ht => (h.sound τ ht).1⟩
  · have hi : i < (T n).l.length := by
      rcases Nat.lt_or_ge i (T n).l.length with h1 | h1
      · exact h1
      · rw [List.getElem?_eq_none h1] at hp; cases hp
    obtain ⟨k1, k2⟩ := (h.kid n hn (hk n hn hf (by omega))).2 i hi
    rw [k2] at hp
    exact ⟨k1, Option.some.inj hp⟩
  · by_cases e : H n = n
    · rw [e]; exact ⟨rfl, rfl, fun _ _ => rfl⟩
    · obtain ⟨c1, c2, c3, c4⟩ := h.cls n hn hf e
      exact ⟨c1, c2, fun i hi => con (c4 i hi)⟩
  · obtain ⟨a, a1, a2⟩ := h.vrs n hn hf
    obtain ⟨b, b1, b2⟩ := h.vrs m hm (by rw [← e]; exact hf)
    rw [← e, a1] at b1
    rw [a2, b2, Option.some.inj b1]
  · obtain ⟨n, m, h1, h2, h3, h4, h5⟩ := h.pair p hp
    exact ⟨n, m, h1, h2, h3, h4, con h5⟩
end
theorem Cls.congr {N : Nat} {T T' : Nat → Tm} {K K' U U' H H' r : Nat → Nat} {vr ps E} (h : Cls N T K U H r vr ps E) (hT : ∀ n, n < N → T' n = T n) (hK : ∀ n, n < N → K' n = K n) (hU : ∀ n, n < N → U' n = U n) (hH : ∀ n, n < N → H' n = H n) : Cls N T' K' U' H' r vr ps E := by
  have con : ∀ {x y}, Con N H ps x y → Con N H' ps x y := fun hc G g1 g2 => hc G (fun m hm => by rw [g1 m hm, hH m hm]) g2
  refine ⟨fun n hn => ?_, fun n hn => ?_, fun n hn hne => ?_, fun n hn => ?_, fun n hn hk => ?_, fun n hn hf => ?_, fun v m hl => ?_, fun n hn hf hne => ?_, h.pss, fun p hp => ?_, fun τ ht => ?_⟩
  · have := h.hd n hn; rw [hH n hn, hH _ this.1]; exact this
  · have := h.up n hn; rw [hU n hn, hH n hn, hH _ this.1]; exact this
  · rw [hH n hn] at hne; rw [hU n hn]; exact h.rank n hn hne
  · rw [hH n hn, hT n hn, hT _ (h.hd n hn).1]; exact h.low n hn
  · rw [hK n hn] at hk ⊢
    rw [hT n hn]
    obtain ⟨h1, h2⟩ := h.kid n hn hk
    refine ⟨h1, fun i hi => ?_⟩
    have := h2 i hi
    rw [hT _ this.1]; exact this
  · rw [hT n hn] at hf ⊢
    obtain ⟨m, h1, h2⟩ := h.vrs n hn hf
    exact ⟨m, h1, by rw [hH n hn, hH m (h.vrt _ m h1).1]; exact h2⟩
  · have := h.vrt v m hl; rw [hT m this.1]; exact this
  · have h1 := (h.hd n hn).1
    rw [hT n hn] at hf ⊢
    rw [hH n hn] at hne ⊢
    rw [hT _ h1, hK n hn, hK _ h1]
    obtain ⟨c1, c2, c3, c4⟩ := h.cls n hn hf hne
    exact ⟨c1, c2, c3, fun i hi => con (c4 i hi)⟩
  · obtain ⟨n, m, h1, h2, h3, h4, h5⟩ := h.pair p hp
    exact ⟨n, m, h1, h2, by rw [hT n h1]; exact h3, by rw [hT m h2]; exact h4, con h5⟩
  · obtain ⟨s1, s2⟩ := h.sound τ ht
    refine ⟨fun n hn => ?_, fun p hp => ?_⟩
    · rw [hH n hn, hT n hn, hT _ (h.hd n hn).1]; exact s1 n hn
    · have := h.pss p hp
      rw [hT _ this.1, hT _ this.2]; exact s2 p hp

structure Nd where
  t : Tm
  fi : Nat
  up : Nat
  us : Int
def ndD : Nd := ⟨⟨0, []⟩, 0, 0, 0⟩
def nT (ns : List Nd) (n : Nat) : Tm := (ns.getD n ndD).t
def nK (ns : List Nd) (n : Nat) : Nat := (ns.getD n ndD).fi
def nU (ns : List Nd) (n : Nat) : Nat := (ns.getD n ndD).up
def nS (ns : List Nd) (n : Nat) : Int := (ns.getD n ndD).us
def setFi (ns : List Nd) (n k : Nat) : List Nd := ns.set n { ns.getD n ndD with fi := k }
def setUp (ns : List Nd) (n k : Nat) : List Nd := ns.set n { ns.getD n ndD with up := k }
structure Cl where
  ns : List Nd
  vr : List (Int × Nat)
  ps : List (Nat × Nat)
def ClsC (c : Cl) (H r : Nat → Nat) (E : List (Tm × Tm)) : Prop := Cls c.ns.length (nT c.ns) (nK c.ns) (nU c.ns) H r c.vr c.ps E

theorem getD_lt {ns : List Nd} {x : Nd} {n : Nat} (h : n < ns.length) : (ns ++ [x]).getD n ndD = ns.getD n ndD := by
  rw [List.getD_eq_getElem?_getD, List.getD_eq_getElem?_getD, List.getElem?_append_left h]
theorem getD_end {ns : List Nd} {x : Nd} : (ns ++ [x]).getD ns.length ndD = x := by
  rw [List.getD_eq_getElem?_getD, List.getElem?_append_right (Nat.le_refl _), Nat.sub_self]; rfl
theorem getDn_set {ns : List Nd} {x : Nd} {n m : Nat} (h : n < ns.length) : (ns.set n x).getD m ndD = if m = n then x else ns.getD m ndD := by
  rw [List.getD_eq_getElem?_getD, List.getElem?_set]
  by_cases e : m = n
  · subst e; rw [if_pos rfl, if_pos h, if_pos rfl]; rfl
  · rw [if_neg (Ne.symm e), if_neg e, List.getD_eq_getElem?_getD]
theorem upd_snoc {α : Type} (g : Nd → α) {ns : List Nd} {x : Nd} {n : Nat} (hn : n < ns.length + 1) : g ((ns ++ [x]).getD n ndD) = upd (fun m => g (ns.getD m ndD)) ns.length (g x) n := by
  rcases Nat.lt_or_ge n ns.length with h | h
  · rw [getD_lt h, upd_ne (by omega)]
  · have : n = ns.length := by omega
    rw [this, getD_end, upd_same]

def addU (c : Cl) (t : Tm) : Nat := if t.f < 0 then (lookV c.vr (-1 - t.f)).getD c.ns.length else c.ns.length
def addV (c : Cl) (t : Tm) : List (Int × Nat) := if t.f < 0 then (match lookV c.vr (-1 - t.f) with | some _ => c.vr | none => c.vr ++ [(-1 - t.f, c.ns.length)]) else c.vr
def addC (c : Cl) (t : Tm) : Cl := ⟨c.ns ++ [⟨t, 0, addU c t, 0⟩], addV c t, c.ps⟩
theorem addC_len (c : Cl) (t : Tm) : (addC c t).ns.length = c.ns.length + 1 := by simp [addC]
theorem addC_at (c : Cl) (t : Tm) {n : Nat} (h : n < c.ns.length) : (addC c t).ns.getD n ndD = c.ns.getD n ndD := getD_lt h
theorem ClsC.add {c : Cl} {H r : Nat → Nat} {E} (h : ClsC c H r E) (t : Tm) : ∃ H' r', ClsC (addC c t) H' r' E ∧ (∀ n, n < c.ns.length → H' n = H n) ∧ (¬ t.f < 0 → H' c.ns.length = c.ns.length) := by
  have hx : addU c t ≤ c.ns.length ∧ (addU c t < c.ns.length → t.f < 0 ∧ (nT c.ns (addU c t)).f = t.f) ∧ (t.f < 0 → lookV (addV c t) (-1 - t.f) = some (addU c t)) ∧ (∀ v m, lookV c.vr v = some m → lookV (addV c t) v = some m) ∧ (∀ v m, lookV (addV c t) v = some m → lookV c.vr v = some m ∨ (m = c.ns.length ∧ t.f = -1 - v)) := by
    unfold addU addV
    by_cases hf : t.f < 0
    · rw [if_pos hf, if_pos hf]
      cases hl : lookV c.vr (-1 - t.f) with
      | some m =>
        have := h.vrt _ m hl
        refine ⟨by simpa using Nat.le_of_lt this.1, fun _ => ⟨hf, ?_⟩, fun _ => hl, fun v m h => h, fun v m h => .inl h⟩
        show (nT c.ns m).f = t.f
        rw [this.2]; omega
      | none =>
        refine ⟨Nat.le_refl _, fun h => absurd h (Nat.lt_irrefl _), fun _ => ?_, fun v m h => ?_, fun v m h => ?_⟩
        · show lookV (c.vr ++ _) _ = _
          rw [lookV_snoc, hl, if_pos rfl]; rfl
        · show lookV (c.vr ++ _) _ = _
          rw [lookV_snoc, h]; rfl
        · have h : lookV (c.vr ++ _) _ = _ := h
          rw [lookV_snoc] at h
          cases hv : lookV c.vr v with
          | some q => rw [hv] at h; exact .inl h
          | none =>
            rw [hv] at h
            have h : (if -1 - t.f = v then some c.ns.length else none) = some m := h
            split at h
            · rename_i e
              cases h
              exact .inr ⟨rfl, by omega⟩
            · cases h
    · rw [if_neg hf, if_neg hf]
      exact ⟨Nat.le_refl _, fun h => absurd h (Nat.lt_irrefl _), fun h => absurd h hf, fun v m h => h, fun v m h => .inl h⟩
  obtain ⟨x1, x2, x3, x4, x5⟩ := hx
  have h1 := Cls.add h x1 x2 x4 x5 x3
  refine ⟨upd H c.ns.length (if addU c t = c.ns.length then c.ns.length else H (addU c t)), upd r c.ns.length (if addU c t = c.ns.length then 0 else r (addU c t) + 1), ?_, fun n hn => upd_ne (by omega), fun hf => ?_⟩
  · unfold ClsC
    rw [addC_len]
    exact h1.congr (fun n hn => upd_snoc Nd.t hn) (fun n hn => upd_snoc Nd.fi hn) (fun n hn => upd_snoc Nd.up hn) fun n hn => rfl
  · rw [upd_same, if_pos]
    unfold addU
    rw [if_neg hf]
def addAll (c : Cl) (l : List Tm) : Cl := l.foldl addC c
theorem addAll_len (l : List Tm) : ∀ c : Cl, (addAll c l).ns.length = c.ns.length + l.length := by
  induction l with
  | nil => exact fun c => rfl
  | cons t l ih => intro c; rw [show addAll c (t :: l) = addAll (addC c t) l from rfl, ih, addC_len, List.length_cons]; omega
theorem addAll_at (l : List Tm) : ∀ (c : Cl) {n : Nat}, n < c.ns.length → (addAll c l).ns.getD n ndD = c.ns.getD n ndD := by
  induction l with
  | nil => exact fun c n _ => rfl
  | cons t l ih =>
    intro c n hn
    rw [show addAll c (t :: l) = addAll (addC c t) l from rfl, ih _ (by rw [addC_len]; omega), addC_at c t hn]
theorem addAll_ps (l : List Tm) : ∀ (c : Cl), (addAll c l).ps = c.ps := by
  induction l with
  | nil => exact fun c => rfl
  | cons t l ih => intro c; exact ih _
theorem addAll_new (l : List Tm) : ∀ (c : Cl) {i : Nat}, i < l.length → l[i]? = some (nT (addAll c l).ns (c.ns.length + i)) ∧ nK (addAll c l).ns (c.ns.length + i) = 0 := by
  induction l with
  | nil => intro c i hi; simp at hi
  | cons t l ih =>
    intro c i hi
    rw [show addAll c (t :: l) = addAll (addC c t) l from rfl]
    cases i with
    | zero =>
      unfold nT nK
      rw [Nat.add_zero, addAll_at l _ (by rw [addC_len]; omega)]
      unfold addC
      rw [getD_end]
      exact ⟨rfl, rfl⟩
    | succ i =>
      have := ih (addC c t) (i := i) (by simpa using hi)
      rw [addC_len] at this
      rw [show c.ns.length + (i + 1) = c.ns.length + 1 + i by omega]
      exact ⟨by rw [List.getElem?_cons_succ]; exact this.1, this.2⟩
theorem ClsC.addAll (l : List Tm) : ∀ {c : Cl} {H r : Nat → Nat} {E}, ClsC c H r E → ∃ H' r', ClsC (addAll c l) H' r' E ∧ (∀ n, n < c.ns.length → H' n = H n) := by
  induction l with
  | nil => exact fun {c H r E} h => ⟨H, r, h, fun n _ => rfl⟩
  | cons t l ih =>
    intro c H r E h
    obtain ⟨H1, r1, g1, g2, _⟩ := h.add t
    obtain ⟨H2, r2, k1, k2⟩ := ih g1
    exact ⟨H2, r2, k1, fun n hn => by rw [k2 n (by rw [addC_len]; omega), g2 n hn]⟩
def Cl.setFi (c : Cl) (n k : Nat) : Cl := ⟨Go.Proofs.YteegmcfobgpemaaGreat.setFi c.ns n k, c.vr, c.ps⟩
theorem addC_setFi (c : Cl) (t : Tm) {n k : Nat} (hn : n < c.ns.length) : addC (c.setFi n k) t = (addC c t).setFi n k := by
  unfold addC Cl.setFi addU addV setFi
  simp only [List.length_set]
  congr 1
  rw [List.set_append_left _ _ hn, getD_lt hn]
theorem addAll_setFi (l : List Tm) : ∀ (c : Cl) {n k : Nat}, n < c.ns.length → Go.Proofs.YteegmcfobgpemaaGreat.addAll (c.setFi n k) l = (Go.Proofs.YteegmcfobgpemaaGreat.addAll c l).setFi n k := by
  induction l with
  | nil => exact fun c n k _ => rfl
  | cons t l ih =>
    intro c n k hn
    show Go.Proofs.YteegmcfobgpemaaGreat.addAll (addC (c.setFi n k) t) l = _
    rw [addC_setFi c t hn, ih _ (by rw [addC_len]; omega)]
    rfl
theorem getD_setFi {ns : List Nd} {n k m : Nat} (h : n < ns.length) : (setFi ns n k).getD m ndD = if m = n then { ns.getD n ndD with fi := k } else ns.getD m ndD := getDn_set h
theorem getD_setUp {ns : List Nd} {n k m : Nat} (h : n < ns.length) : (setUp ns n k).getD m ndD = if m = n then { ns.getD n ndD with up := k } else ns.getD m ndD := getDn_set h
theorem nT_setFi {ns : List Nd} {n k m : Nat} (h : n < ns.length) : nT (setFi ns n k) m = nT ns m := by
  unfold nT; rw [getD_setFi h]; split
  · rename_i e; rw [e]
  · rfl
theorem nU_setFi {ns : List Nd} {n k m : Nat} (h : n < ns.length) : nU (setFi ns n k) m = nU ns m := by
  unfold nU; rw [getD_setFi h]; split
  · rename_i e; rw [e]
  · rfl
theorem nK_setFi {ns : List Nd} {n k m : Nat} (h : n < ns.length) : nK (setFi ns n k) m = upd (nK ns) n k m := by
  unfold nK upd; rw [getD_setFi h]; split <;> rfl
theorem nT_setUp {ns : List Nd} {n k m : Nat} (h : n < ns.length) : nT (setUp ns n k) m = nT ns m := by
  unfold nT; rw [getD_setUp h]; split
  · rename_i e; rw [e]
  · rfl
theorem nK_setUp {ns : List Nd} {n k m : Nat} (h : n < ns.length) : nK (setUp ns n k) m = nK ns m := by
  unfold nK; rw [getD_setUp h]; split
  · rename_i e; rw [e]
  · rfl
theorem nS_setUp {ns : List Nd} {n k m : Nat} (h : n < ns.length) : nS (setUp ns n k) m = nS ns m := by
  unfold nS; rw [getD_setUp h]; split
  · rename_i e; rw [e]
  · rfl
theorem nU_setUp {ns : List Nd} {n k m : Nat} (h : n < ns.length) : nU (setUp ns n k) m = upd (nU ns) n k m := by
  unfold nU upd; rw [getD_setUp h]; split <;> rfl
theorem setUp_len {ns : List Nd} {n k : Nat} : (setUp ns n k).length = ns.length := List.length_set
theorem setFi_len {ns : List Nd} {n k : Nat} : (setFi ns n k).length = ns.length := List.length_set

def pC (c : Cl) (n : Nat) : Cl × Nat × Nat :=
  if (nT c.ns n).f < 0 ∨ (nT c.ns n).l.length = 0 then (c, 0, 0)
  else if nK c.ns n = 0 then (Go.Proofs.YteegmcfobgpemaaGreat.addAll (c.setFi n c.ns.length) (nT c.ns n).l, c.ns.length, c.ns.length + (nT c.ns n).l.length)
  else (c, nK c.ns n, nK c.ns n + (nT c.ns n).l.length)
structure Grew (c c' : Cl) (H H' : Nat → Nat) : Prop where
  len : c.ns.length ≤ c'.ns.length
  tm : ∀ m, m < c.ns.length → nT c'.ns m = nT c.ns m
  kd : ∀ m, m < c.ns.length → nK c.ns m ≠ 0 → nK c'.ns m = nK c.ns m
  us : ∀ m, m < c.ns.length → nS c'.ns m = nS c.ns m
  hd : ∀ m, m < c.ns.length → H' m = H m
  ps : c'.ps = c.ps
theorem Grew.refl (c : Cl) (H : Nat → Nat) : Grew c c H H := ⟨Nat.le_refl _, fun _ _ => rfl, fun _ _ _ => rfl, fun _ _ => rfl, fun _ _ => rfl, rfl⟩
theorem ClsC.parts {c : Cl} {H r : Nat → Nat} {E} (h : ClsC c H r E) {n : Nat} (hn : n < c.ns.length) : ∃ H' r', ClsC (pC c n).1 H' r' E ∧ Grew c (pC c n).1 H H' ∧ ((nT c.ns n).f < 0 ∨ (nT c.ns n).l.length = 0 → (pC c n).2 = (0, 0)) ∧ (¬ ((nT c.ns n).f < 0 ∨ (nT c.ns n).l.length = 0) → nK (pC c n).1.ns n ≠ 0 ∧ (pC c n).2 = (nK (pC c n).1.ns n, nK (pC c n).1.ns n + (nT c.ns n).l.length)) := by
  unfold pC
  split
  · rename_i hv
    exact ⟨H, r, h, Grew.refl c H, fun _ => rfl, fun hc => absurd hv hc⟩
  · rename_i hv
    split
    · rename_i hk
      obtain ⟨H1, r1, g1, g2⟩ := ClsC.addAll (nT c.ns n).l h
      rw [addAll_setFi _ c hn]
      obtain ⟨l, hl⟩ : ∃ l, l = (nT c.ns n).l := ⟨_, rfl⟩
      rw [← hl] at g1 hv ⊢
      have hlen := addAll_len l c
      have hn' : n < (Go.Proofs.YteegmcfobgpemaaGreat.addAll c l).ns.length := by omega
      have ht : ∀ m, m < c.ns.length → nT (Go.Proofs.YteegmcfobgpemaaGreat.addAll c l).ns m = nT c.ns m := fun m hm => by unfold nT; rw [addAll_at l c hm]
      have hkk : ∀ m, m < c.ns.length → nK (Go.Proofs.YteegmcfobgpemaaGreat.addAll c l).ns m = nK c.ns m := fun m hm => by unfold nK; rw [addAll_at l c hm]
      have hss : ∀ m, m < c.ns.length → nS (Go.Proofs.YteegmcfobgpemaaGreat.addAll c l).ns m = nS c.ns m := fun m hm => by unfold nS; rw [addAll_at l c hm]
      have hfs : ¬ (nT c.ns n).f < 0 := fun e => hv (.inl e)
      have g3 : Cls _ _ (upd (nK (Go.Proofs.YteegmcfobgpemaaGreat.addAll c l).ns) n c.ns.length) _ _ _ _ _ _ := Cls.setK g1 hn' (by rw [hkk n hn]; exact hk) (by rw [ht n hn]; exact hfs) fun i hi => by
        rw [ht n hn, ← hl] at hi ⊢
        exact ⟨by omega, (addAll_new l c hi).1⟩
      refine ⟨H1, r1, ?_, ⟨?_, fun m hm => ?_, fun m hm hk2 => ?_, fun m hm => ?_, g2, addAll_ps l c⟩, fun e => absurd e hv, fun _ => ?_⟩
      · unfold ClsC
        show Cls (setFi _ _ _).length (nT (setFi _ _ _)) (nK (setFi _ _ _)) (nU (setFi _ _ _)) _ _ _ _ _
        rw [setFi_len]
        exact g3.congr (fun m _ => nT_setFi hn') (fun m _ => nK_setFi hn') (fun m _ => nU_setFi hn') fun m _ => rfl
      · show _ ≤ (setFi _ _ _).length
        rw [setFi_len]; omega
      · show nT (setFi _ _ _) m = _
        rw [nT_setFi hn', ht m hm]
      · show nK (setFi _ _ _) m = _
        rw [nK_setFi hn', upd_ne (fun e => hk2 (by rw [e]; exact hk)), hkk m hm]
      · show nS (setFi _ _ _) m = _
        unfold nS
        rw [getD_setFi hn', ← show nS (Go.Proofs.YteegmcfobgpemaaGreat.addAll c l).ns m = (c.ns.getD m ndD).us from hss m hm]
        split
        · rename_i e; rw [e]; rfl
        · rfl
      · have : nK (setFi (Go.Proofs.YteegmcfobgpemaaGreat.addAll c l).ns n c.ns.length) n = c.ns.length := by rw [nK_setFi hn', upd_same]
        show nK (setFi _ _ _) n ≠ 0 ∧ (c.ns.length, c.ns.length + l.length) = (nK (setFi _ _ _) n, nK (setFi _ _ _) n + l.length)
        rw [this]
        exact ⟨by omega, rfl⟩
    · rename_i hk
      exact ⟨H, r, h, Grew.refl c H, fun e => absurd e hv, fun _ => ⟨hk, rfl⟩⟩

def headC : Nat → List Nd → Nat → Option (List Nd × Nat)
  | 0, _, _ => none
  | k + 1, ns, n => if nU ns n = n then some (ns, n) else headC k (setUp ns n (nU ns (nU ns n))) (nU (setUp ns n (nU ns (nU ns n))) n)
theorem headC_succ : ∀ (k : Nat) (ns : List Nd) (n : Nat) (r), headC k ns n = some r → headC (k + 1) ns n = some r
  | 0, _, _, _, e => by cases e
  | k + 1, ns, n, r, e => by
    rw [headC] at e ⊢
    split
    · rename_i h; rw [if_pos h] at e; exact e
    · rename_i h; rw [if_neg h] at e; exact headC_succ k _ _ _ e
theorem headC_le {k m : Nat} (h : k ≤ m) {ns : List Nd} {n : Nat} {r} (e : headC k ns n = some r) : headC m ns n = some r := by
  induction h with
  | refl => exact e
  | step _ ih => exact headC_succ _ _ _ _ ih
theorem ClsC.head {vr ps} {H r : Nat → Nat} {E} : ∀ (k : Nat) {ns : List Nd} {n : Nat}, ClsC ⟨ns, vr, ps⟩ H r E → n < ns.length → r n < k → ∃ ns', headC k ns n = some (ns', H n) ∧ ClsC ⟨ns', vr, ps⟩ H r E ∧ ns'.length = ns.length ∧ (∀ m, nT ns' m = nT ns m) ∧ (∀ m, nK ns' m = nK ns m) ∧ ∀ m, nS ns' m = nS ns m
  | 0, ns, n, h, hn, hr => by omega
  | k + 1, ns, n, h, hn, hr => by
    obtain ⟨u1, u2, u3⟩ := h.up n hn
    rw [headC]
    by_cases e : nU ns n = n
    · rw [if_pos e]
      have hh : H n = n := Decidable.byContradiction fun hne => by
        have h1 : r (nU ns n) < r n := h.rank n hn hne
        rw [e] at h1; omega
      exact ⟨ns, by rw [hh], h, rfl, fun _ => rfl, fun _ => rfl, fun _ => rfl⟩
    · rw [if_neg e]
      have hne : H n ≠ n := fun e2 => e (u3 e2)
      have r1 : r (nU ns n) < r n := h.rank n hn hne
      obtain ⟨v1, v2, v3⟩ := h.up (nU ns n) u1
      have u1' : nU ns n < ns.length := u1
      have v1' : nU ns (nU ns n) < ns.length := v1
      have hU : nU (setUp ns n (nU ns (nU ns n))) n = nU ns (nU ns n) := by rw [nU_setUp hn, upd_same]
      have hc : ClsC ⟨setUp ns n (nU ns (nU ns n)), vr, ps⟩ H r E := by
        unfold ClsC
        show Cls (setUp _ _ _).length _ _ _ _ _ _ _ _
        rw [setUp_len]
        exact (Cls.halve h hn).congr (fun m _ => nT_setUp hn) (fun m _ => nK_setUp hn) (fun m _ => nU_setUp hn) fun m _ => rfl
      have r2 : r (nU ns (nU ns n)) ≤ r (nU ns n) := by
        by_cases e2 : H (nU ns n) = nU ns n
        · rw [show nU ns (nU ns n) = nU ns n from v3 e2]; exact Nat.le_refl _
        · exact Nat.le_of_lt (h.rank _ u1 e2)
      rw [hU]
      obtain ⟨ns', g1, g2, g3, g4, g5, g6⟩ := ClsC.head k hc (n := nU ns (nU ns n)) (by rw [setUp_len]; exact v1') (by omega)
      refine ⟨ns', ?_, g2, by rw [g3, setUp_len], fun m => by rw [g4, nT_setUp hn], fun m => by rw [g5, nK_setUp hn], fun m => by rw [g6, nS_setUp hn]⟩
      rw [g1, show H (nU ns (nU ns n)) = H n from v2.trans u2]
def sumTo (f : Nat → Nat) : Nat → Nat
  | 0 => 0
  | n + 1 => sumTo f n + f n
theorem sumTo_congr {f g : Nat → Nat} : ∀ {N : Nat}, (∀ n, n < N → f n = g n) → sumTo f N = sumTo g N
  | 0, _ => rfl
  | N + 1, h => by rw [sumTo, sumTo, sumTo_congr fun n hn => h n (by omega), h N (by omega)]
theorem sumTo_upd {f : Nat → Nat} {n x : Nat} : ∀ {N : Nat}, n < N → sumTo (upd f n x) N + f n = sumTo f N + x
  | 0, h => by omega
  | N + 1, h => by
    rw [sumTo, sumTo]
    by_cases e : n = N
    · subst e
      rw [upd_same, sumTo_congr (g := f) fun m hm => upd_ne (by omega)]; omega
    · rw [upd_ne (Ne.symm e)]
      have := sumTo_upd (f := f) (n := n) (x := x) (N := N) (by omega)
      omega
def wgt (ns : List Nd) (n : Nat) : Nat := if nK ns n ≠ 0 then (nT ns n).l.length else 2 * (nT ns n).size - 1
def hw (ns : List Nd) (H : Nat → Nat) (n : Nat) : Nat := if H n = n then wgt ns n else 0
theorem hw_same {ns ns' : List Nd} {H H' : Nat → Nat} {n : Nat} (h1 : nT ns' n = nT ns n) (h2 : nK ns' n = nK ns n) (h3 : H' n = H n) : hw ns' H' n = hw ns H n := by
  unfold hw wgt; rw [h1, h2, h3]
theorem mea_add (c : Cl) (t : Tm) {H H' : Nat → Nat} (hH : ∀ n, n < c.ns.length → H' n = H n) : sumTo (hw (addC c t).ns H') (c.ns.length + 1) ≤ sumTo (hw c.ns H) c.ns.length + (2 * t.size - 1) := by
  rw [sumTo, sumTo_congr (g := hw c.ns H) fun n hn => hw_same (by unfold nT; rw [addC_at c t hn]) (by unfold nK; rw [addC_at c t hn]) (hH n hn)]
  have h1 : nT (addC c t).ns c.ns.length = t := by unfold nT addC; rw [getD_end]
  have h2 : nK (addC c t).ns c.ns.length = 0 := by unfold nK addC; rw [getD_end]
  have : hw (addC c t).ns H' c.ns.length ≤ 2 * t.size - 1 := by
    unfold hw wgt
    rw [h1, h2]
    split
    · rw [if_neg (by simp)]; exact Nat.le_refl _
    · exact Nat.zero_le _
  omega
def szs (l : List Tm) : Nat := (l.map fun t => 2 * t.size - 1).sum
theorem szs_eq (l : List Tm) : szs l + l.length = 2 * (l.map Tm.size).sum := by
  unfold szs
  induction l with
  | nil => rfl
  | cons t l ih =>
    rw [List.map_cons, List.map_cons, List.sum_cons, List.sum_cons, List.length_cons]
    have := t.size_pos
    omega
theorem mea_addAll (l : List Tm) : ∀ (c : Cl) {H H' : Nat → Nat}, (∀ n, n < c.ns.length → H' n = H n) → sumTo (hw (addAll c l).ns H') (c.ns.length + l.length) ≤ sumTo (hw c.ns H) c.ns.length + szs l := by
  induction l with
  | nil =>
    intro c H H' hH
    rw [List.length_nil, Nat.add_zero]
    have : sumTo (hw (addAll c []).ns H') c.ns.length = sumTo (hw c.ns H) c.ns.length := sumTo_congr fun n hn => hw_same rfl rfl (hH n hn)
    rw [this]
    exact Nat.le_add_right _ _
  | cons t l ih =>
    intro c H H' hH
    have h1 := mea_add c t hH
    have h2 := ih (addC c t) (H := H') (H' := H') fun _ _ => rfl
    rw [addC_len] at h2
    rw [show addAll c (t :: l) = addAll (addC c t) l from rfl, List.length_cons, show c.ns.length + (l.length + 1) = c.ns.length + 1 + l.length by omega]
    have h3 : szs (t :: l) = (2 * t.size - 1) + szs l := by unfold szs; rw [List.map_cons, List.sum_cons]
    omega
theorem mea_parts (c : Cl) {n : Nat} (hn : n < c.ns.length) {H H' : Nat → Nat} (hh : H n = n) (hH : ∀ n, n < c.ns.length → H' n = H n) : sumTo (hw (pC c n).1.ns H') (pC c n).1.ns.length ≤ sumTo (hw c.ns H) c.ns.length := by
  have triv : sumTo (hw c.ns H') c.ns.length ≤ sumTo (hw c.ns H) c.ns.length := by
    rw [sumTo_congr (g := hw c.ns H) fun n hn => hw_same rfl rfl (hH n hn)]; exact Nat.le_refl _
  unfold pC
  split
  · exact triv
  · rename_i hv
    split
    · rename_i hk
      rw [addAll_setFi _ c hn]
      obtain ⟨l, hl⟩ : ∃ l, l = (nT c.ns n).l := ⟨_, rfl⟩
      rw [← hl]
      have hlen := addAll_len l c
      have hn' : n < (addAll c l).ns.length := by omega
      have ht : nT (addAll c l).ns n = nT c.ns n := by unfold nT; rw [addAll_at l c hn]
      have hkk : nK (addAll c l).ns n = nK c.ns n := by unfold nK; rw [addAll_at l c hn]
      show sumTo (hw (setFi _ _ _) H') (setFi _ _ _).length ≤ _
      rw [setFi_len]
      have h1 : sumTo (hw (setFi (addAll c l).ns n c.ns.length) H') (addAll c l).ns.length = sumTo (upd (hw (addAll c l).ns H') n l.length) (addAll c l).ns.length := sumTo_congr fun m hm => by
        by_cases e : m = n
        · subst e
          rw [upd_same]
          unfold hw wgt
          rw [nT_setFi hn', nK_setFi hn', upd_same, hH m hn, hh, if_pos rfl, if_pos (by omega), ht, hl]
        · rw [upd_ne e]
          exact hw_same (nT_setFi hn') (by rw [nK_setFi hn', upd_ne e]) rfl
      have h2 := sumTo_upd (f := hw (addAll c l).ns H') (x := l.length) hn'
      have h3 := mea_addAll l c hH
      have h4 : hw (addAll c l).ns H' n = 2 * (nT c.ns n).size - 1 := by
        unfold hw wgt
        rw [hH n hn, hh, if_pos rfl, hkk, hk, if_neg (by simp), ht]
      have h5 := szs_eq l
      have h6 := Tm.size_sym (t := nT c.ns n) (fun e => hv (.inl e))
      rw [← hl] at h6
      rw [h1]
      rw [hlen] at h2 ⊢
      omega
    · exact triv

def pushP (c : Cl) (a b : Nat) : Cl :=
  ⟨(pC (pC c a).1 b).1.ns, (pC (pC c a).1 b).1.vr, (pC (pC c a).1 b).1.ps ++ (List.range ((pC c a).2.2 - (pC c a).2.1)).reverse.map fun i => ((pC c a).2.1 + i, (pC (pC c a).1 b).2.1 + i)⟩
def Cl.setUp (c : Cl) (n k : Nat) : Cl := ⟨Go.Proofs.YteegmcfobgpemaaGreat.setUp c.ns n k, c.vr, c.ps⟩
def joinTo (c : Cl) (a b : Nat) : Cl × Bool :=
  if (nT c.ns a).f < 0 then (c.setUp a b, true)
  else if (nT c.ns a).f ≠ (nT c.ns b).f ∨ (nT c.ns a).l.length ≠ (nT c.ns b).l.length then (c, false)
  else ((pushP c a b).setUp a b, true)
def joinC (k : Nat) (c : Cl) (x y : Nat) : Option (Cl × Bool) := match headC k c.ns x with
  | none => none
  | some q => match headC k q.1 y with
    | none => none
    | some q' => if q.2 = q'.2 then some (⟨q'.1, c.vr, c.ps⟩, true)
      else if (nT q'.1 q'.2).f < (nT q'.1 q.2).f then some (joinTo ⟨q'.1, c.vr, c.ps⟩ q'.2 q.2)
      else some (joinTo ⟨q'.1, c.vr, c.ps⟩ q.2 q'.2)
theorem joinC_le {k m : Nat} (h : k ≤ m) {c : Cl} {x y : Nat} {r} (e : joinC k c x y = some r) : joinC m c x y = some r := by
  unfold joinC at e ⊢
  cases h1 : headC k c.ns x with
  | none => rw [h1] at e; cases e
  | some q =>
    rw [h1] at e
    rw [headC_le h h1]
    simp only at e ⊢
    cases h2 : headC k q.1 y with
    | none => rw [h2] at e; cases e
    | some q' =>
      rw [h2] at e
      rw [headC_le h h2]
      exact e
def mea (c : Cl) (H : Nat → Nat) : Nat := c.ps.length + sumTo (hw c.ns H) c.ns.length
def Left (c : Cl) (M : Nat) (E : List (Tm × Tm)) (q : Cl × Bool) : Prop := (q.2 = false → ∀ τ, ¬ uni τ E) ∧ (q.2 = true → ∃ H' r', ClsC q.1 H' r' E ∧ mea q.1 H' < M)
theorem joinTo_spec {ns vr ps x y} {H r : Nat → Nat} {E} (h : ClsC ⟨ns, vr, ps ++ [(x, y)]⟩ H r E) {a b : Nat} (ha : a < ns.length) (hb : b < ns.length) (hha : H a = a) (hhb : H b = b) (hab : a ≠ b) (hxy : (H x = a ∧ H y = b) ∨ (H x = b ∧ H y = a)) (hlow : (nT ns a).f ≤ (nT ns b).f) : Left ⟨ns, vr, ps⟩ (mea ⟨ns, vr, ps ++ [(x, y)]⟩ H) E (joinTo ⟨ns, vr, ps⟩ a b) := by
  have h0 : Cls ns.length (nT ns) (nK ns) (nU ns) H r vr (ps ++ [(x, y)]) E := h
  -- what the new heads weigh
  have wH : ∀ (ns' : List Nd) (H1 : Nat → Nat), (∀ m, m < ns'.length → H1 m < ns'.length ∧ H1 (H1 m) = H1 m) → a < ns'.length → b < ns'.length → H1 a = a → H1 b = b → sumTo (hw (setUp ns' a b) (fun m => if H1 m = a then b else H1 m)) ns'.length + wgt ns' a = sumTo (hw ns' H1) ns'.length := fun ns' H1 hd ha' hb' e1 e2 => by
    have e3 : sumTo (hw (setUp ns' a b) (fun m => if H1 m = a then b else H1 m)) ns'.length = sumTo (upd (hw ns' H1) a 0) ns'.length := sumTo_congr fun m hm => by
      unfold hw
      by_cases e : m = a
      · subst e
        rw [upd_same, if_neg]
        show ¬ (if H1 m = m then b else H1 m) = m
        rw [if_pos e1]; exact Ne.symm hab
      · rw [upd_ne e]
        have ew : wgt (setUp ns' a b) m = wgt ns' m := by unfold wgt; rw [nT_setUp ha', nK_setUp ha']
        rw [ew]
        by_cases e4 : H1 m = a
        · have e5 : (if H1 m = a then b else H1 m) = b := if_pos e4
          have e6 : b ≠ m := fun e7 => by rw [← e7, e2] at e4; exact hab e4.symm
          show (if (if H1 m = a then b else H1 m) = m then _ else _) = _
          rw [e5, if_neg e6, if_neg (by rw [e4]; exact Ne.symm e)]
        · show (if (if H1 m = a then b else H1 m) = m then _ else _) = _
          rw [if_neg e4]
    have e4 := sumTo_upd (f := hw ns' H1) (n := a) (x := 0) ha'
    have e5 : hw ns' H1 a = wgt ns' a := by unfold hw; rw [if_pos e1]
    omega
  unfold joinTo
  by_cases hf : (nT ns a).f < 0
  · rw [if_pos hf]
    refine ⟨fun e => (by cases e), fun _ => ?_⟩
    have hu := Cls.union h0 ha hb hha hhb hab hxy hlow (qs := []) (fun e => absurd hf e) (fun q hq => by cases hq)
    refine ⟨fun m => if H m = a then b else H m, fun m => if H m = a then r m + r b + 1 else r m, ?_, ?_⟩
    · unfold ClsC
      show Cls (setUp _ _ _).length (nT (setUp _ _ _)) (nK (setUp _ _ _)) (nU (setUp _ _ _)) _ _ _ _ _
      rw [setUp_len]
      rw [List.append_nil] at hu
      exact hu.congr (fun m _ => nT_setUp ha) (fun m _ => nK_setUp ha) (fun m _ => nU_setUp ha) fun m _ => rfl
    · have := wH ns H h0.hd ha hb hha hhb
      show ps.length + sumTo (hw (setUp ns a b) _) (setUp ns a b).length < (ps ++ [(x, y)]).length + sumTo (hw ns H) ns.length
      rw [setUp_len, List.length_append, List.length_singleton]
      omega
  · rw [if_neg hf]
    by_cases hc : (nT ns a).f ≠ (nT ns b).f ∨ (nT ns a).l.length ≠ (nT ns b).l.length
    · rw [if_pos hc]
      exact ⟨fun _ => Cls.clash h0 hxy hf (by show ¬ (nT ns b).f < 0; omega) hc, fun e => by cases e⟩
    · rw [if_neg hc]
      refine ⟨fun e => (by cases e), fun _ => ?_⟩
      have hff : (nT ns a).f = (nT ns b).f := Decidable.byContradiction fun h => hc (.inl h)
      have hll : (nT ns a).l.length = (nT ns b).l.length := Decidable.byContradiction fun h => hc (.inr h)
      -- parts of both; what waits plays no part in them
      obtain ⟨c0, hc0⟩ : ∃ c0 : Cl, c0 = ⟨ns, vr, ps⟩ := ⟨_, rfl⟩
      have pps : ∀ (c : Cl) (qs : List (Nat × Nat)) (n : Nat), pC ⟨c.ns, c.vr, qs⟩ n = (⟨(pC c n).1.ns, (pC c n).1.vr, qs⟩, (pC c n).2) := fun c qs n => by
        have addQ : ∀ (l : List Tm) (c : Cl) (qs : List (Nat × Nat)), addAll ⟨c.ns, c.vr, qs⟩ l = ⟨(addAll c l).ns, (addAll c l).vr, qs⟩ := fun l => by
          induction l with
          | nil => exact fun c qs => rfl
          | cons t l ih => intro c qs; exact ih (addC c t) qs
        unfold pC
        split
        · rfl
        · split
          · have := addQ (nT c.ns n).l (c.setFi n c.ns.length) qs
            show (addAll ⟨(c.setFi n c.ns.length).ns, (c.setFi n c.ns.length).vr, qs⟩ _, _) = _
            rw [this]
          · rfl
      have hA := pps ⟨ns, vr, ps⟩ (ps ++ [(x, y)]) a
      have hp1 := ClsC.parts h (n := a) ha
      rw [hA] at hp1
      obtain ⟨H1, r1, g1, g2, g3, g4⟩ := hp1
      obtain ⟨c1, hc1⟩ : ∃ c1, c1 = (pC ⟨ns, vr, ps⟩ a).1 := ⟨_, rfl⟩
      rw [← hc1] at g1 g2 g4
      have l1 : ns.length ≤ c1.ns.length := g2.len
      have hB := pps c1 (ps ++ [(x, y)]) b
      have hp2 := ClsC.parts g1 (n := b) (show b < c1.ns.length by omega)
      rw [hB] at hp2
      obtain ⟨H2, r2, k1, k2, k3, k4⟩ := hp2
      obtain ⟨c2, hc2⟩ : ∃ c2, c2 = (pC c1 b).1 := ⟨_, rfl⟩
      rw [← hc2] at k1 k2 k4
      have l2 : c1.ns.length ≤ c2.ns.length := k2.len
      have t1 : ∀ m, m < ns.length → nT c1.ns m = nT ns m := g2.tm
      have t2 : ∀ m, m < c1.ns.length → nT c2.ns m = nT c1.ns m := k2.tm
      have ta : nT c2.ns a = nT ns a := by rw [t2 a (by omega), t1 a ha]
      have tb : nT c2.ns b = nT ns b := by rw [t2 b (by omega), t1 b hb]
      have hd1 : ∀ m, m < ns.length → H1 m = H m := g2.hd
      have hd2 : ∀ m, m < c1.ns.length → H2 m = H1 m := k2.hd
      have hH2 : ∀ m, m < ns.length → H2 m = H m := fun m hm => by rw [hd2 m (by omega), hd1 m hm]
      have hxyN := h0.pss (x, y) (by simp)
      have hps1 : c1.ps = ps := by
        have := pps ⟨ns, vr, ps⟩ ps a
        rw [hc1, this]
      have hps2 : c2.ps = ps := by
        have := pps c1 ps b
        rw [← hps1] at this
        rw [hc2]
        have h9 := congrArg (fun q => q.1.ps) this
        exact h9.trans hps1
      -- where parts lie
      have qa : (pC ⟨ns, vr, ps⟩ a).2.2 - (pC ⟨ns, vr, ps⟩ a).2.1 = (nT ns a).l.length ∧ ((nT ns a).l.length ≠ 0 → (pC ⟨ns, vr, ps⟩ a).2.1 = nK c2.ns a ∧ nK c2.ns a ≠ 0) := by
        by_cases hz : (nT ns a).l.length = 0
        · have := g3 (.inr hz)
          have this : (pC ⟨ns, vr, ps⟩ a).2 = (0, 0) := this
          rw [this]
          exact ⟨by show 0 - 0 = _; omega, fun e => absurd hz e⟩
        · obtain ⟨q1, q2⟩ := g4 fun e => e.elim hf hz
          have q2 : (pC ⟨ns, vr, ps⟩ a).2 = (nK c1.ns a, nK c1.ns a + (nT ns a).l.length) := q2
          have q3 : nK c2.ns a = nK c1.ns a := k2.kd a (by show a < c1.ns.length; omega) q1
          rw [q2]
          exact ⟨by show nK c1.ns a + _ - nK c1.ns a = _; omega, fun _ => ⟨q3.symm, by rw [q3]; exact q1⟩⟩
      have qb : (nT ns b).l.length ≠ 0 → (pC c1 b).2.1 = nK c2.ns b ∧ nK c2.ns b ≠ 0 := fun hz => by
        have tb1 : nT c1.ns b = nT ns b := t1 b hb
        obtain ⟨q1, q2⟩ := k4 fun e => by
          have e : (nT c1.ns b).f < 0 ∨ (nT c1.ns b).l.length = 0 := e
          rw [tb1] at e
          exact e.elim (fun e => hf (by omega)) hz
        have q2 : (pC c1 b).2 = (nK c2.ns b, nK c2.ns b + _) := q2
        rw [q2]
        exact ⟨rfl, q1⟩
      obtain ⟨qs, hqs⟩ : ∃ qs, qs = (List.range ((pC ⟨ns, vr, ps⟩ a).2.2 - (pC ⟨ns, vr, ps⟩ a).2.1)).reverse.map fun i => ((pC ⟨ns, vr, ps⟩ a).2.1 + i, (pC c1 b).2.1 + i) := ⟨_, rfl⟩
      have hpush : pushP ⟨ns, vr, ps⟩ a b = ⟨c2.ns, c2.vr, ps ++ qs⟩ := by
        unfold pushP
        rw [← hc1, ← hc2, ← hqs, hps2]
      have hqm : ∀ q, q ∈ qs ↔ ∃ i, i < (nT ns a).l.length ∧ q = ((pC ⟨ns, vr, ps⟩ a).2.1 + i, (pC c1 b).2.1 + i) := fun q => by
        rw [hqs, List.mem_map, qa.1]
        constructor
        · rintro ⟨i, hi, e⟩
          exact ⟨i, List.mem_range.1 (List.mem_reverse.1 hi), e.symm⟩
        · rintro ⟨i, hi, e⟩
          exact ⟨i, List.mem_reverse.2 (List.mem_range.2 hi), e.symm⟩
      have ha2 : a < c2.ns.length := by omega
      have hb2 : b < c2.ns.length := by omega
      have hu := Cls.union (show Cls c2.ns.length (nT c2.ns) (nK c2.ns) (nU c2.ns) H2 r2 c2.vr (ps ++ [(x, y)]) E from k1) ha2 hb2 (by rw [hH2 a ha]; exact hha) (by rw [hH2 b hb]; exact hhb) hab (by rw [hH2 x hxyN.1, hH2 y hxyN.2]; exact hxy) (by rw [ta, tb]; exact hlow) (qs := qs)
        (fun _ => by
          rw [ta, tb]
          refine ⟨hff.symm, hll.symm, fun hz => ⟨(qa.2 hz).2, (qb (by rw [← hll]; exact hz)).2⟩, fun i hi => ?_⟩
          rw [hqm]
          refine ⟨i, hi, ?_⟩
          rw [(qa.2 (by omega)).1, (qb (by omega)).1])
        (fun q hq => by
          obtain ⟨i, hi, e⟩ := (hqm q).1 hq
          rw [ta]
          refine ⟨hf, i, hi, ?_⟩
          rw [e, (qa.2 (by omega)).1, (qb (by omega)).1])
      rw [hpush]
      refine ⟨fun m => if H2 m = a then b else H2 m, fun m => if H2 m = a then r2 m + r2 b + 1 else r2 m, ?_, ?_⟩
      · unfold ClsC
        show Cls (setUp _ _ _).length (nT (setUp _ _ _)) (nK (setUp _ _ _)) (nU (setUp _ _ _)) _ _ _ _ _
        rw [setUp_len]
        exact hu.congr (fun m _ => nT_setUp ha2) (fun m _ => nK_setUp ha2) (fun m _ => nU_setUp ha2) fun m _ => rfl
      · have w1 := wH c2.ns H2 (show Cls c2.ns.length (nT c2.ns) (nK c2.ns) (nU c2.ns) H2 r2 c2.vr (ps ++ [(x, y)]) E from k1).hd ha2 hb2 (by rw [hH2 a ha]; exact hha) (by rw [hH2 b hb]; exact hhb)
        have w2 := mea_parts ⟨ns, vr, ps⟩ (n := a) ha (H := H) (H' := H1) hha hd1
        rw [← hc1] at w2
        have w3 := mea_parts c1 (n := b) (by omega) (H := H1) (H' := H2) (by rw [hd1 b hb]; exact hhb) hd2
        rw [← hc2] at w3
        have w4 : qs.length = (nT ns a).l.length := by rw [hqs, List.length_map, List.length_reverse, List.length_range, qa.1]
        have w5 : (nT ns a).l.length ≤ wgt c2.ns a := by
          by_cases hz : (nT ns a).l.length = 0
          · omega
          · unfold wgt
            rw [if_pos (qa.2 hz).2, ta]; exact Nat.le_refl _
        show (ps ++ qs).length + sumTo (hw (setUp c2.ns a b) _) (setUp c2.ns a b).length < (ps ++ [(x, y)]).length + sumTo (hw ns H) ns.length
        rw [setUp_len, List.length_append, List.length_append, List.length_singleton]
        have w2 : sumTo (hw c1.ns H1) c1.ns.length ≤ sumTo (hw ns H) ns.length := w2
        omega
theorem mea_same {ns ns' : List Nd} {vr ps} {H : Nat → Nat} (hl : ns'.length = ns.length) (ht : ∀ m, nT ns' m = nT ns m) (hk : ∀ m, nK ns' m = nK ns m) : mea ⟨ns', vr, ps⟩ H = mea ⟨ns, vr, ps⟩ H := by
  unfold mea
  rw [show (Cl.mk ns' vr ps).ns.length = ns.length from hl]
  show ps.length + _ = ps.length + _
  congr 1
  exact sumTo_congr fun m _ => hw_same (ht m) (hk m) rfl
theorem joinC_spec {ns vr ps x y} {H r : Nat → Nat} {E} (h : ClsC ⟨ns, vr, ps ++ [(x, y)]⟩ H r E) : ∃ k q, joinC k ⟨ns, vr, ps⟩ x y = some q ∧ Left ⟨ns, vr, ps⟩ (mea ⟨ns, vr, ps ++ [(x, y)]⟩ H) E q := by
  have hxy := h.pss (x, y) (by simp)
  have hx : x < ns.length := hxy.1
  have hy : y < ns.length := hxy.2
  obtain ⟨ns1, e1, g1, l1, t1, k1, _⟩ := ClsC.head (r x + r y + 1) h hx (by omega)
  obtain ⟨ns2, e2, g2, l2, t2, k2, _⟩ := ClsC.head (r x + r y + 1) g1 (n := y) (by omega) (by omega)
  have hm : mea ⟨ns2, vr, ps ++ [(x, y)]⟩ H = mea ⟨ns, vr, ps ++ [(x, y)]⟩ H := mea_same (by omega) (fun m => by rw [t2, t1]) fun m => by rw [k2, k1]
  have hdx := g2.hd x (by show x < ns2.length; omega)
  have hdy := g2.hd y (by show y < ns2.length; omega)
  refine ⟨r x + r y + 1, ?_⟩
  unfold joinC
  rw [show headC (r x + r y + 1) (Cl.mk ns vr ps).ns x = some (ns1, H x) from e1]
  simp only
  rw [e2]
  simp only
  rw [← hm]
  by_cases e : H x = H y
  · rw [if_pos e]
    refine ⟨_, rfl, fun e => (by cases e), fun _ => ⟨H, r, Cls.drop g2 e, ?_⟩⟩
    show ps.length + _ < (ps ++ [(x, y)]).length + _
    rw [List.length_append, List.length_singleton]
    show _ + sumTo (hw ns2 H) ns2.length < _ + sumTo (hw ns2 H) ns2.length
    omega
  · rw [if_neg e]
    split
    · rename_i hf
      exact ⟨_, rfl, joinTo_spec g2 hdy.1 hdx.1 hdy.2 hdx.2 (Ne.symm e) (.inr ⟨rfl, rfl⟩) (Int.le_of_lt hf)⟩
    · rename_i hf
      exact ⟨_, rfl, joinTo_spec g2 hdx.1 hdy.1 hdx.2 hdy.2 e (.inl ⟨rfl, rfl⟩) (by omega)⟩
def runC : Nat → Cl → Option (Cl × Bool)
  | 0, _ => none
  | k + 1, c => match c.ps.getLast? with
    | none => some (c, true)
    | some p => match joinC k ⟨c.ns, c.vr, c.ps.dropLast⟩ p.1 p.2 with
      | none => none
      | some q => if q.2 = true then runC k q.1 else some q
theorem runC_succ : ∀ (k : Nat) (c : Cl) (r), runC k c = some r → runC (k + 1) c = some r
  | 0, _, _, e => by cases e
  | k + 1, c, r, e => by
    rw [runC] at e ⊢
    cases h1 : c.ps.getLast? with
    | none => rw [h1] at e; exact e
    | some p =>
      rw [h1] at e
      simp only at e ⊢
      cases h2 : joinC k ⟨c.ns, c.vr, c.ps.dropLast⟩ p.1 p.2 with
      | none => rw [h2] at e; cases e
      | some q =>
        rw [h2] at e
        rw [joinC_le (Nat.le_succ k) h2]
        simp only at e ⊢
        split
        · rename_i h3; rw [if_pos h3] at e; exact runC_succ k _ _ e
        · rename_i h3; rw [if_neg h3] at e; exact e
theorem runC_le {k m : Nat} (h : k ≤ m) {c : Cl} {r} (e : runC k c = some r) : runC m c = some r := by
  induction h with
  | refl => exact e
  | step _ ih => exact runC_succ _ _ _ ih
def Told (E : List (Tm × Tm)) (q : Cl × Bool) : Prop := (q.2 = false → ∀ τ, ¬ uni τ E) ∧ (q.2 = true → q.1.ps = [] ∧ ∃ H' r', ClsC q.1 H' r' E)
theorem runC_spec : ∀ (M : Nat) (c : Cl) {H r : Nat → Nat} {E}, mea c H = M → ClsC c H r E → ∃ k q, runC k c = some q ∧ Told E q := by
  intro M
  induction M using Nat.strongRecOn with
  | ind M ih =>
    intro c H r E hM h
    cases hp : c.ps.getLast? with
    | none =>
      refine ⟨1, (c, true), by rw [runC, hp], fun e => (by cases e), fun _ => ⟨?_, H, r, h⟩⟩
      exact List.getLast?_eq_none_iff.1 hp
    | some p =>
      have hps : c.ps = c.ps.dropLast ++ [p] := by
        have hne : c.ps ≠ [] := fun e => by rw [e] at hp; cases hp
        have h8 : c.ps.getLast hne = p := by
          have := List.getLast?_eq_some_getLast hne
          rw [hp] at this
          exact (Option.some.inj this).symm
        rw [← h8, List.dropLast_concat_getLast hne]
      have hc : c = ⟨c.ns, c.vr, c.ps.dropLast ++ [(p.1, p.2)]⟩ := by
        conv => lhs; rw [show c = ⟨c.ns, c.vr, c.ps⟩ from rfl, hps]
      rw [hc] at h
      obtain ⟨k, q, e1, l1, l2⟩ := joinC_spec h
      cases hq : q.2 with
      | false =>
        refine ⟨k + 1, q, ?_, fun _ => l1 hq, fun e => by rw [hq] at e; cases e⟩
        rw [runC, hp]
        simp only
        rw [e1]
        simp only
        rw [hq, if_neg (by simp)]
      | true =>
        obtain ⟨H', r', g1, g2⟩ := l2 hq
        rw [← hc] at g2
        obtain ⟨k2, q2, e2, g3⟩ := ih (mea q.1 H') (by omega) q.1 rfl g1
        refine ⟨max k k2 + 1, q2, ?_, g3⟩
        rw [runC, hp]
        simp only
        rw [joinC_le (Nat.le_max_left k k2) e1]
        simp only
        rw [hq, if_pos rfl]
        exact runC_le (Nat.le_max_right k k2) e2
def openC (c : Cl) (p : Tm × Tm) : Cl := ⟨(addC (addC c p.1) p.2).ns, (addC (addC c p.1) p.2).vr, (addC (addC c p.1) p.2).ps ++ [(c.ns.length, c.ns.length + 1)]⟩
def joinAllC (k : Nat) : List (Tm × Tm) → Cl → Option (Cl × Bool)
  | [], c => some (c, true)
  | p :: l, c => match runC k (openC c p) with
    | none => none
    | some q => if q.2 = true then joinAllC k l q.1 else some q
theorem joinAllC_le {k m : Nat} (h : k ≤ m) : ∀ {l : List (Tm × Tm)} {c : Cl} {r}, joinAllC k l c = some r → joinAllC m l c = some r
  | [], c, r, e => e
  | p :: l, c, r, e => by
    rw [joinAllC] at e ⊢
    cases h2 : runC k (openC c p) with
    | none => rw [h2] at e; cases e
    | some q =>
      rw [h2] at e
      rw [runC_le h h2]
      simp only at e ⊢
      split
      · rename_i h3; rw [if_pos h3] at e; exact joinAllC_le h e
      · rename_i h3; rw [if_neg h3] at e; exact e
theorem ClsC.openC {c : Cl} {H r : Nat → Nat} {E} (h : ClsC c H r E) (p : Tm × Tm) : ∃ H' r', ClsC (openC c p) H' r' (E ++ [p]) := by
  obtain ⟨H1, r1, g1, _⟩ := h.add p.1
  obtain ⟨H2, r2, g2, _⟩ := g1.add p.2
  have l1 := addC_len c p.1
  have l2 := addC_len (addC c p.1) p.2
  have h3 := Cls.push g2 (n := c.ns.length) (m := c.ns.length + 1) (by omega) (by omega)
  have t1 : nT (addC (addC c p.1) p.2).ns c.ns.length = p.1 := by
    unfold nT
    rw [addC_at _ _ (by omega)]
    unfold addC
    rw [getD_end]
  have t2 : nT (addC (addC c p.1) p.2).ns (c.ns.length + 1) = p.2 := by
    unfold nT
    rw [← l1]
    show (List.getD ((addC c p.1).ns ++ [_]) _ _).t = _
    rw [getD_end]
  rw [t1, t2] at h3
  exact ⟨H2, r2, h3⟩
theorem joinAllC_spec : ∀ (l : List (Tm × Tm)) (c : Cl) {H r : Nat → Nat} {E}, c.ps = [] → ClsC c H r E → ∃ k q, joinAllC k l c = some q ∧ Told (E ++ l) q
  | [], c, H, r, E, hp, h => ⟨0, (c, true), rfl, fun e => (by cases e), fun _ => ⟨hp, H, r, by rw [List.append_nil]; exact h⟩⟩
  | p :: l, c, H, r, E, hp, h => by
    obtain ⟨H1, r1, g1⟩ := h.openC p
    obtain ⟨k1, q1, e1, t1, t2⟩ := runC_spec _ _ rfl g1
    have e3 : E ++ [p] ++ l = E ++ p :: l := by rw [List.append_assoc]; rfl
    cases hq : q1.2 with
    | false =>
      refine ⟨k1, q1, ?_, fun _ τ ht => ?_, fun e => by rw [hq] at e; cases e⟩
      · rw [joinAllC, e1]
        simp only
        rw [hq, if_neg (by simp)]
      · rw [← e3, uni_app] at ht
        exact t1 hq τ ht.1
    | true =>
      obtain ⟨h2, H2, r2, g2⟩ := t2 hq
      obtain ⟨k2, q2, e2, g3⟩ := joinAllC_spec l q1.1 h2 g2
      refine ⟨max k1 k2, q2, ?_, by rw [← e3]; exact g3⟩
      rw [joinAllC, runC_le (Nat.le_max_left k1 k2) e1]
      simp only
      rw [hq, if_pos rfl]
      exact joinAllC_le (Nat.le_max_right k1 k2) e2
theorem sum_congr_nat {l : List Nat} {f g : Nat → Nat} (h : ∀ s ∈ l, f s = g s) : (l.map f).sum = (l.map g).sum := by
  rw [List.map_congr_left h]
theorem sumTo_zero {f : Nat → Nat} : ∀ {N : Nat}, (∀ n, n < N → f n = 0) → sumTo f N = 0
  | 0, _ => rfl
  | N + 1, h => by rw [sumTo, sumTo_zero fun n hn => h n (by omega), h N (by omega)]
theorem sumTo_list {N : Nat} : ∀ (L : List Nat) (f : Nat → Nat), L.Nodup → (∀ g ∈ L, g < N) → (L.map f).sum ≤ sumTo f N ∧ ((∀ g, g < N → g ∉ L → f g = 0) → sumTo f N = (L.map f).sum)
  | [], f, _, _ => ⟨Nat.zero_le _, fun h => sumTo_zero fun n hn => h n hn (by simp)⟩
  | a :: L, f, hn, hb => by
    obtain ⟨h1, h2⟩ := List.nodup_cons.1 hn
    have ha := hb a (by simp)
    have e1 := sumTo_upd (f := f) (x := 0) ha
    obtain ⟨i1, i2⟩ := sumTo_list L (upd f a 0) h2 fun g hg => hb g (List.mem_cons_of_mem _ hg)
    have e2 : (L.map (upd f a 0)).sum = (L.map f).sum := sum_congr_nat fun s hs => upd_ne fun e => h1 (e ▸ hs)
    rw [List.map_cons, List.sum_cons]
    refine ⟨by omega, fun hz => ?_⟩
    have := i2 fun g hg hgL => by
      by_cases e : g = a
      · rw [e, upd_same]
      · rw [upd_ne e]
        exact hz g hg fun hm => (List.mem_cons.1 hm).elim e hgL
    omega
theorem count_fm (eg : Nat → List Nat) (h : Nat) : ∀ L : List Nat, (L.flatMap eg).count h = (L.map fun g => (eg g).count h).sum
  | [] => rfl
  | a :: L => by rw [List.flatMap_cons, List.count_append, List.map_cons, List.sum_cons, count_fm eg h L]

section
variable (N : Nat) (hp : Nat → Bool) (eg : Nat → List Nat)
def degO (h g : Nat) : Nat := if hp g then (eg g).count h else 0
def deg (h : Nat) : Nat := sumTo (degO hp eg h) N
structure KI (k : Nat) (pre : List Nat) (u : Nat → Int) (o : List Nat) : Prop where
  cnt : ∀ h, u h + (((o.take k).flatMap eg ++ pre).count h : Nat) = (deg N hp eg h : Int)
  nd : o.Nodup
  hd : ∀ h ∈ o, h < N ∧ hp h = true
  zero : ∀ h, h < N → hp h = true → (h ∈ o ↔ u h = 0)
  ord : ∀ p g, p < k → o[p]? = some g → ∀ h ∈ eg g, ∀ q, o[q]? = some h → p < q
  orp : ∀ h ∈ pre, ∀ q, o[q]? = some h → k < q
variable {N hp eg}
theorem KI.start {o : List Nat} (hn : o.Nodup) (ho : ∀ h, h ∈ o ↔ (h < N ∧ hp h = true ∧ deg N hp eg h = 0)) : KI N hp eg 0 [] (fun h => (deg N hp eg h : Int)) o := by
  refine ⟨fun h => by simp, hn, fun h hh => ⟨((ho h).1 hh).1, ((ho h).1 hh).2.1⟩, fun h h1 h2 => ?_, fun p g h => by omega, fun h hh => by cases hh⟩
  rw [ho h]
  constructor
  · rintro ⟨_, _, e⟩; simp only [e]; rfl
  · intro e; exact ⟨h1, h2, by omega⟩
theorem get_lt {o : List Nat} {k g : Nat} (h : o[k]? = some g) : k < o.length := by
  rcases Nat.lt_or_ge k o.length with h1 | h1
  · exact h1
  · rw [List.getElem?_eq_none h1] at h; cases h
theorem take_snocN {o : List Nat} {k g : Nat} (h : o[k]? = some g) : o.take (k + 1) = o.take k ++ [g] := by
  rw [List.take_add_one, h]; rfl
theorem KI.pos {k : Nat} {pre : List Nat} {u : Nat → Int} {o : List Nat} (h : KI N hp eg k pre u o) {g x : Nat} {post : List Nat} (hk : o[k]? = some g) (he : eg g = pre ++ x :: post) : 0 < u x := by
  have hN : (o.take (k + 1)).Nodup := h.nd.sublist (List.take_sublist _ _)
  have h1 := (sumTo_list (N := N) (o.take (k + 1)) (degO hp eg x) hN fun g hg => (h.hd g (List.mem_of_mem_take hg)).1).1
  have h2 : ((o.take (k + 1)).map (degO hp eg x)).sum = ((o.take (k + 1)).flatMap eg).count x := by
    rw [count_fm]
    exact sum_congr_nat fun s hs => if_pos (h.hd s (List.mem_of_mem_take hs)).2
  rw [h2, take_snocN hk, List.flatMap_append, List.count_append] at h1
  have h3 : ([g].flatMap eg).count x = pre.count x + (1 + post.count x) := by
    rw [List.flatMap_cons, List.flatMap_nil, List.append_nil, he, List.count_append, List.count_cons]
    simp only [BEq.rfl, if_true]; omega
  have h4 := h.cnt x
  rw [List.count_append] at h4
  have h5 : deg N hp eg x = sumTo (degO hp eg x) N := rfl
  omega
theorem KI.step {k : Nat} {pre : List Nat} {u : Nat → Int} {o : List Nat} (h : KI N hp eg k pre u o) {g x : Nat} {post : List Nat} (hk : o[k]? = some g) (he : eg g = pre ++ x :: post) (hx : x < N ∧ hp x = true) : KI N hp eg k (pre ++ [x]) (upd u x (u x - 1)) (if u x - 1 = 0 then o ++ [x] else o) := by
  have hp0 := h.pos hk he
  have hxo : x ∉ o := fun hm => by have := (h.zero x hx.1 hx.2).1 hm; omega
  have hkl := get_lt hk
  have cnt : ∀ o' : List Nat, o'.take k = o.take k → ∀ y, upd u x (u x - 1) y + (((o'.take k).flatMap eg ++ (pre ++ [x])).count y : Nat) = (deg N hp eg y : Int) := fun o' ho y => by
    have := h.cnt y
    rw [ho, ← List.append_assoc, List.count_append]
    by_cases e : y = x
    · subst e
      rw [upd_same]
      have : [y].count y = 1 := by simp
      omega
    · rw [upd_ne e]
      have : [x].count y = 0 := by
        rw [List.count_eq_zero]; simpa using e
      omega
  split
  · rename_i hz
    have gx : ∀ {q y}, (o ++ [x])[q]? = some y → o[q]? = some y ∨ (q = o.length ∧ y = x) := fun {q y} e => by
      rcases Nat.lt_or_ge q o.length with h1 | h1
      · rw [List.getElem?_append_left h1] at e; exact .inl e
      · rw [List.getElem?_append_right h1] at e
        have h2 : q - o.length < [x].length := get_lt e
        simp only [List.length_singleton] at h2
        rw [show q - o.length = 0 by omega] at e
        exact .inr ⟨by omega, (Option.some.inj e).symm⟩
    refine ⟨cnt (o ++ [x]) (List.take_append_of_le_length (by omega)), ?_, fun y hy => ?_, fun y h1 h2 => ?_, fun p g' hp' hg y hy q hq => ?_, fun y hy q hq => ?_⟩
    · rw [List.nodup_append]
      exact ⟨h.nd, by simp, fun a ha b hb => by rw [List.mem_singleton] at hb; rw [hb]; exact fun e => hxo (e ▸ ha)⟩
    · rcases List.mem_append.1 hy with hy | hy
      · exact h.hd y hy
      · rw [List.mem_singleton] at hy; rw [hy]; exact hx
    · by_cases e : y = x
      · subst e
        rw [upd_same]
        exact ⟨fun _ => hz, fun _ => by simp⟩
      · rw [upd_ne e, ← h.zero y h1 h2]
        simp [e]
    · have hg' : o[p]? = some g' := by rw [List.getElem?_append_left (by omega)] at hg; exact hg
      rcases gx hq with hq | ⟨hq, _⟩
      · exact h.ord p g' hp' hg' y hy q hq
      · omega
    · rcases gx hq with hq' | ⟨hq', _⟩
      · rcases List.mem_append.1 hy with hy | hy
        · exact h.orp y hy q hq'
        · rw [List.mem_singleton] at hy
          exact absurd (List.mem_of_getElem? hq') (by rw [hy]; exact hxo)
      · omega
  · rename_i hz
    refine ⟨cnt o rfl, h.nd, h.hd, fun y h1 h2 => ?_, h.ord, fun y hy q hq => ?_⟩
    · by_cases e : y = x
      · subst e
        rw [upd_same]
        exact ⟨fun hm => absurd hm hxo, fun e => absurd e hz⟩
      · rw [upd_ne e]; exact h.zero y h1 h2
    · rcases List.mem_append.1 hy with hy | hy
      · exact h.orp y hy q hq
      · rw [List.mem_singleton] at hy
        exact absurd (List.mem_of_getElem? hq) (by rw [hy]; exact hxo)
theorem KI.next {k : Nat} {pre : List Nat} {u : Nat → Int} {o : List Nat} (h : KI N hp eg k pre u o) {g : Nat} (hk : o[k]? = some g) (he : eg g = pre) : KI N hp eg (k + 1) [] u o := by
  refine ⟨fun x => ?_, h.nd, h.hd, h.zero, fun p g' hp' hg y hy q hq => ?_, fun y hy => by cases hy⟩
  · rw [take_snocN hk, List.flatMap_append, List.append_nil, List.flatMap_cons, List.flatMap_nil, List.append_nil, he]
    exact h.cnt x
  · rcases Nat.lt_or_ge p k with h1 | h1
    · exact h.ord p g' h1 hg y hy q hq
    · have : p = k := by omega
      subst this
      rw [hk] at hg
      cases hg
      rw [he] at hy
      exact h.orp y hy q hq
theorem KI.over {u : Nat → Int} {o : List Nat} (h : KI N hp eg o.length [] u o) {x : Nat} (hx : x < N) (hpx : hp x = true) (hxo : x ∉ o) : ∃ g, g < N ∧ hp g = true ∧ g ∉ o ∧ x ∈ eg g := by
  apply Classical.byContradiction
  intro hno
  have h1 := (sumTo_list (N := N) o (degO hp eg x) h.nd fun g hg => (h.hd g hg).1).2 fun g hg hgo => by
    unfold degO
    split
    · rename_i hpg
      exact List.count_eq_zero.2 fun hm => hno ⟨g, hg, hpg, hgo, hm⟩
    · rfl
  have h2 : (o.map (degO hp eg x)).sum = (o.flatMap eg).count x := by
    rw [count_fm]
    exact sum_congr_nat fun s hs => if_pos (h.hd s hs).2
  have h3 := h.cnt x
  rw [List.take_length, List.append_nil] at h3
  have h5 : deg N hp eg x = sumTo (degO hp eg x) N := rfl
  exact hxo ((h.zero x hx hpx).2 (by omega))
theorem KI.rank {u : Nat → Int} {o : List Nat} (h : KI N hp eg o.length [] u o) (ha : ∀ x, x < N → hp x = true → x ∈ o) : ∃ ρ : Nat → Nat, ∀ g, g < N → hp g = true → ∀ x ∈ eg g, x < N → hp x = true → ρ x < ρ g := by
  refine ⟨fun x => o.length - o.idxOf x, fun g hg hpg x hx hxN hpx => ?_⟩
  have i1 := List.idxOf_lt_length_of_mem (ha g hg hpg)
  have i2 := List.idxOf_lt_length_of_mem (ha x hxN hpx)
  have e1 : o[o.idxOf g]? = some g := by rw [List.getElem?_eq_getElem i1, List.getElem_idxOf]
  have e2 : o[o.idxOf x]? = some x := by rw [List.getElem?_eq_getElem i2, List.getElem_idxOf]
  have := h.ord _ g i1 e1 x hx _ e2
  show o.length - _ < o.length - _
  omega
end
-- uses are kept by all but countUses and ordered
theorem getD_big {ns : List Nd} {n : Nat} (h : ns.length ≤ n) : ns.getD n ndD = ndD := by
  rw [List.getD_eq_getElem?_getD, List.getElem?_eq_none h]; rfl
theorem nS_set {ns : List Nd} {n h : Nat} {x : Nd} (hx : x.us = nS ns n) : nS (ns.set n x) h = nS ns h := by
  rcases Nat.lt_or_ge n ns.length with h1 | h1
  · unfold nS
    rw [getDn_set h1]
    split
    · rename_i e; rw [e]; exact hx
    · rfl
  · rw [List.set_eq_of_length_le h1]
theorem nS_up {ns : List Nd} {n k h : Nat} : nS (setUp ns n k) h = nS ns h := nS_set rfl
theorem nS_fi {ns : List Nd} {n k h : Nat} : nS (setFi ns n k) h = nS ns h := nS_set rfl
theorem nS_add (c : Cl) (t : Tm) (h : Nat) : nS (addC c t).ns h = nS c.ns h := by
  unfold nS addC
  rcases Nat.lt_or_ge h c.ns.length with h1 | h1
  · rw [getD_lt h1]
  · rw [getD_big h1]
    rcases Nat.lt_or_ge h (c.ns.length + 1) with h2 | h2
    · rw [show h = c.ns.length by omega, getD_end]; rfl
    · rw [getD_big (by rw [List.length_append, List.length_singleton]; exact h2)]
theorem nS_addAll (l : List Tm) : ∀ (c : Cl) (h : Nat), nS (addAll c l).ns h = nS c.ns h := by
  induction l with
  | nil => exact fun c h => rfl
  | cons t l ih => intro c h; rw [show addAll c (t :: l) = addAll (addC c t) l from rfl, ih, nS_add]
theorem nS_parts (c : Cl) (n h : Nat) : nS (pC c n).1.ns h = nS c.ns h := by
  unfold pC
  split
  · rfl
  · split
    · show nS (addAll _ _).ns h = _
      rw [nS_addAll]; exact nS_fi
    · rfl
theorem nS_head : ∀ (k : Nat) {ns : List Nd} {n : Nat} {q}, headC k ns n = some q → ∀ h, nS q.1 h = nS ns h
  | 0, _, _, _, e, _ => by cases e
  | k + 1, ns, n, q, e, h => by
    rw [headC] at e
    split at e
    · cases e; rfl
    · rw [nS_head k e h, nS_up]
theorem nS_joinTo (c : Cl) (a b h : Nat) : nS (joinTo c a b).1.ns h = nS c.ns h := by
  unfold joinTo
  split
  · exact nS_up
  · split
    · rfl
    · show nS (setUp _ _ _) h = _
      rw [nS_up]
      show nS (pC (pC c a).1 b).1.ns h = _
      rw [nS_parts, nS_parts]
theorem nS_join {k : Nat} {c : Cl} {x y : Nat} {q} (e : joinC k c x y = some q) (h : Nat) : nS q.1.ns h = nS c.ns h := by
  unfold joinC at e
  cases h1 : headC k c.ns x with
  | none => rw [h1] at e; cases e
  | some q1 =>
    rw [h1] at e
    simp only at e
    cases h2 : headC k q1.1 y with
    | none => rw [h2] at e; cases e
    | some q2 =>
      rw [h2] at e
      simp only at e
      have h3 : nS q2.1 h = nS c.ns h := by rw [nS_head k h2, nS_head k h1]
      split at e
      · cases e; exact h3
      · split at e
        · cases e; rw [nS_joinTo]; exact h3
        · cases e; rw [nS_joinTo]; exact h3
theorem nS_run : ∀ (k : Nat) {c : Cl} {q}, runC k c = some q → ∀ h, nS q.1.ns h = nS c.ns h
  | 0, _, _, e, _ => by cases e
  | k + 1, c, q, e, h => by
    rw [runC] at e
    cases h1 : c.ps.getLast? with
    | none => rw [h1] at e; cases e; rfl
    | some p =>
      rw [h1] at e
      simp only at e
      cases h2 : joinC k ⟨c.ns, c.vr, c.ps.dropLast⟩ p.1 p.2 with
      | none => rw [h2] at e; cases e
      | some q1 =>
        rw [h2] at e
        simp only at e
        split at e
        · rw [nS_run k e h, nS_join h2]
        · cases e; rw [nS_join h2]
theorem nS_all : ∀ {k : Nat} {l : List (Tm × Tm)} {c : Cl} {q}, joinAllC k l c = some q → ∀ h, nS q.1.ns h = nS c.ns h
  | k, [], c, q, e, h => by cases e; rfl
  | k, p :: l, c, q, e, h => by
    rw [joinAllC] at e
    cases h2 : runC k (openC c p) with
    | none => rw [h2] at e; cases e
    | some q1 =>
      rw [h2] at e
      simp only at e
      have h3 : nS q1.1.ns h = nS c.ns h := by
        rw [nS_run k h2]
        show nS (addC (addC c p.1) p.2).ns h = _
        rw [nS_add, nS_add]
      split at e
      · rw [nS_all e h, h3]
      · cases e; exact h3

def setUs (ns : List Nd) (n : Nat) (x : Int) : List Nd := ns.set n { ns.getD n ndD with us := x }
theorem getD_setUs {ns : List Nd} {n m : Nat} {x : Int} (h : n < ns.length) : (setUs ns n x).getD m ndD = if m = n then { ns.getD n ndD with us := x } else ns.getD m ndD := getDn_set h
theorem setUs_len {ns : List Nd} {n : Nat} {x : Int} : (setUs ns n x).length = ns.length := List.length_set
theorem nT_setUs {ns : List Nd} {n m : Nat} {x : Int} (h : n < ns.length) : nT (setUs ns n x) m = nT ns m := by
  unfold nT; rw [getD_setUs h]; split
  · rename_i e; rw [e]
  · rfl
theorem nK_setUs {ns : List Nd} {n m : Nat} {x : Int} (h : n < ns.length) : nK (setUs ns n x) m = nK ns m := by
  unfold nK; rw [getD_setUs h]; split
  · rename_i e; rw [e]
  · rfl
theorem nU_setUs {ns : List Nd} {n m : Nat} {x : Int} (h : n < ns.length) : nU (setUs ns n x) m = nU ns m := by
  unfold nU; rw [getD_setUs h]; split
  · rename_i e; rw [e]
  · rfl
theorem nS_setUs {ns : List Nd} {n m : Nat} {x : Int} (h : n < ns.length) : nS (setUs ns n x) m = upd (nS ns) n x m := by
  unfold nS upd; rw [getD_setUs h]; split <;> rfl
theorem ClsC.setUs {ns vr ps} {H r : Nat → Nat} {E} (h : ClsC ⟨ns, vr, ps⟩ H r E) {n : Nat} (hn : n < ns.length) (x : Int) : ClsC ⟨setUs ns n x, vr, ps⟩ H r E := by
  unfold ClsC
  show Cls (Go.Proofs.YteegmcfobgpemaaGreat.setUs _ _ _).length _ _ _ _ _ _ _ _
  rw [setUs_len]
  exact Cls.congr h (fun m _ => nT_setUs hn) (fun m _ => nK_setUs hn) (fun m _ => nU_setUs hn) fun m _ => rfl

def useC (k : Nat) : List Nat → List Nd → Option (List Nd)
  | [], ns => some ns
  | p :: l, ns => match headC k ns p with
    | none => none
    | some q => useC k l (setUs q.1 q.2 (nS q.1 q.2 + 1))
theorem useC_spec {vr ps} {H r : Nat → Nat} {E} : ∀ (l : List Nat) {ns : List Nd}, ClsC ⟨ns, vr, ps⟩ H r E → (∀ p ∈ l, p < ns.length) → ∃ k0 ns', (∀ k, k0 ≤ k → useC k l ns = some ns') ∧ ClsC ⟨ns', vr, ps⟩ H r E ∧ ns'.length = ns.length ∧ (∀ m, nT ns' m = nT ns m) ∧ (∀ m, nK ns' m = nK ns m) ∧ ∀ m, nS ns' m = nS ns m + ((l.map H).count m : Nat)
  | [], ns, h, _ => ⟨0, ns, fun _ _ => rfl, h, rfl, fun _ => rfl, fun _ => rfl, fun m => by simp⟩
  | p :: l, ns, h, hl => by
    have hp := hl p (by simp)
    obtain ⟨ns1, e1, g1, l1, t1, k1, s1⟩ := ClsC.head (r p + 1) h hp (by omega)
    have hH : H p < ns1.length := by rw [l1]; exact (h.hd p hp).1
    obtain ⟨k0, ns2, e2, g2, l2, t2, k2, s2⟩ := useC_spec l (g1.setUs hH (nS ns1 (H p) + 1)) fun q hq => by rw [setUs_len, l1]; exact hl q (List.mem_cons_of_mem _ hq)
    refine ⟨max (r p + 1) k0, ns2, fun k hk => ?_, g2, by rw [l2, setUs_len, l1], fun m => by rw [t2, nT_setUs hH, t1], fun m => by rw [k2, nK_setUs hH, k1], fun m => ?_⟩
    · rw [useC, headC_le (show r p + 1 ≤ k by omega) e1]
      exact e2 k (by omega)
    · rw [s2, nS_setUs hH, List.map_cons, List.count_cons]
      by_cases e : m = H p
      · subst e
        rw [upd_same, s1]
        simp only [BEq.rfl, if_true]; omega
      · rw [upd_ne e, s1]
        have : (H p == m) = false := by simpa using Ne.symm e
        rw [this]; simp
def egC (ns : List Nd) (H : Nat → Nat) (g : Nat) : List Nat := if (nT ns g).f < 0 then [] else (List.range (nT ns g).l.length).map fun i => H (nK ns g + i)
def countC (k : Nat) : Nat → Nat → Cl → List Nat → Option (Cl × List Nat)
  | 0, _, _, _ => none
  | j + 1, n, c, hs => if n < c.ns.length then (match headC k c.ns n with
      | none => none
      | some q => if q.2 ≠ n then countC k j (n + 1) ⟨q.1, c.vr, c.ps⟩ hs
        else match useC k (List.range' (pC ⟨q.1, c.vr, c.ps⟩ n).2.1 ((pC ⟨q.1, c.vr, c.ps⟩ n).2.2 - (pC ⟨q.1, c.vr, c.ps⟩ n).2.1)) (pC ⟨q.1, c.vr, c.ps⟩ n).1.ns with
          | none => none
          | some ns => countC k j (n + 1) ⟨ns, (pC ⟨q.1, c.vr, c.ps⟩ n).1.vr, (pC ⟨q.1, c.vr, c.ps⟩ n).1.ps⟩ (hs ++ [n]))
    else some (c, hs)
def gw (ns : List Nd) (n m : Nat) : Nat := if m < n then 0 else if nK ns m = 0 then (nT ns m).size else 1
theorem sumTo_more {f : Nat → Nat} : ∀ (l : List Tm) (N : Nat), (∀ i t, l[i]? = some t → f (N + i) ≤ t.size) → sumTo f (N + l.length) ≤ sumTo f N + (l.map Tm.size).sum
  | [], N, _ => by simp
  | t :: l, N, h => by
    have h1 := h 0 t rfl
    have h2 := sumTo_more (f := f) l (N + 1) fun i u hu => by
      have := h (i + 1) u (by simpa using hu)
      rw [show N + 1 + i = N + (i + 1) by omega]; exact this
    rw [List.length_cons, show N + (l.length + 1) = N + 1 + l.length by omega, List.map_cons, List.sum_cons]
    rw [sumTo] at h2
    rw [Nat.add_zero] at h1
    omega
theorem gw_step {ns : List Nd} {n : Nat} (hn : n < ns.length) : sumTo (gw ns (n + 1)) ns.length + (if nK ns n = 0 then (nT ns n).size else 1) = sumTo (gw ns n) ns.length := by
  have h1 : sumTo (gw ns (n + 1)) ns.length = sumTo (upd (gw ns n) n 0) ns.length := sumTo_congr fun m _ => by
    unfold gw
    by_cases e : m = n
    · subst e; rw [upd_same, if_pos (by omega)]
    · rw [upd_ne e]
      by_cases e2 : m < n
      · rw [if_pos (by omega), if_pos e2]
      · rw [if_neg (by omega), if_neg e2]
  have h2 := sumTo_upd (f := gw ns n) (x := 0) hn
  have h3 : gw ns n n = if nK ns n = 0 then (nT ns n).size else 1 := if_neg (by omega)
  rw [h1, ← h3]; omega
theorem gw_parts (c : Cl) {n : Nat} (hn : n < c.ns.length) : sumTo (gw (pC c n).1.ns (n + 1)) (pC c n).1.ns.length < sumTo (gw c.ns n) c.ns.length := by
  have h0 := gw_step hn
  have hpos : 1 ≤ (if nK c.ns n = 0 then (nT c.ns n).size else 1) := by
    split
    · exact Tm.size_pos _
    · exact Nat.le_refl _
  unfold pC
  split
  · show sumTo (gw c.ns (n + 1)) c.ns.length < _
    omega
  · rename_i hv
    split
    · rename_i hk
      rw [addAll_setFi _ c hn]
      obtain ⟨l, hl⟩ : ∃ l, l = (nT c.ns n).l := ⟨_, rfl⟩
      rw [← hl]
      have hlen := addAll_len l c
      have hn' : n < (addAll c l).ns.length := by omega
      show sumTo (gw (setFi _ _ _) (n + 1)) (setFi _ _ _).length < _
      rw [setFi_len, hlen]
      have h1 := sumTo_more (f := gw (setFi (addAll c l).ns n c.ns.length) (n + 1)) l c.ns.length fun i t hi => by
        have hil : i < l.length := by
          rcases Nat.lt_or_ge i l.length with h1 | h1
          · exact h1
          · rw [List.getElem?_eq_none h1] at hi; cases hi
        obtain ⟨a1, a2⟩ := addAll_new l c hil
        unfold gw
        rw [if_neg (by omega), nK_setFi hn', upd_ne (by omega), a2, if_pos rfl, nT_setFi hn']
        rw [hi] at a1
        rw [← Option.some.inj a1]; exact Nat.le_refl _
      have h2 : sumTo (gw (setFi (addAll c l).ns n c.ns.length) (n + 1)) c.ns.length = sumTo (gw c.ns (n + 1)) c.ns.length := sumTo_congr fun m hm => by
        unfold gw
        by_cases e : m < n + 1
        · rw [if_pos e, if_pos e]
        · rw [if_neg e, if_neg e, nK_setFi hn', upd_ne (by omega), nT_setFi hn']
          unfold nK nT
          rw [addAll_at l c hm]
      rw [hk, if_pos rfl] at h0
      have h6 := Tm.size_sym (t := nT c.ns n) (fun e => hv (.inl e))
      rw [← hl] at h6
      omega
    · show sumTo (gw c.ns (n + 1)) c.ns.length < _
      omega
end Go.Proofs.YteegmcfobgpemaaGreat
