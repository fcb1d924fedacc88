/-
  SmSym3 SmStab SmNorm UnPairs UnBig UnLaws UnMid SbRef7 SbRef7N
-/
import Derived.Test.YtiammidklcjelaaMg7
import Derived.Test.YtiammidklcjelaaMg4
import Derived.Test.YtiammidklcjelaaMg6
import Derived.Test.YtiammidklcjelaaMg5
import Derived.Test.YtiammidklcjelaaMg3
namespace Go.Proofs.Ytiammidklcjelaa
open Go.RowKit
set_option linter.unusedVariables false
set_option linter.unusedSimpArgs false
set_option maxRecDepth 100000
-- 
set_option maxHeartbeats 4000000 in
theorem symM_abs (cmp : Bd → Bd → Int) (fc : CV) (hcm : ∀ W x y, AFunW Try.prog W fc [x.cw, y.cw] (.val (.i (cmp x y)))) (hv : ∀ x y, cmp x y < 0 ↔ x.v < y.v) : ∀ (d : Nat) (L : List Bd) (a m b : Nat), b - a ≤ d → a < m → m < b → b ≤ L.length → L.length ≤ 1000000 → srtB L a m → srtB L m b → AFunE (Sg := List Bd) Try.prog 140 (rwB L) [.sl 400000 0 L.length 3, .val (.i a), .val (.i m), .val (.i b), .val fc] (symR a b L) (fun _ => .tup []) (fun σ => rwB σ) := by
  intro d
  induction d with
  | zero => intro L a m b hd ham hmb; omega
  | succ d ih =>
  intro L a m b hd ham hmb hb hl h1 h2
  by_cases q1 : m = a + 1
  · exact symM_one cmp fc hcm hv L a m b q1 hmb hb hl h2
  by_cases q2 : b = m + 1
  · exact symM_last cmp fc hcm hv L a m b (by omega) q2 hb hl h1
  refine afunE_of Try.func140 Try.ntmps140 rfl rfl rfl rfl rfl (fun σ => rfl) ?_
  intro w U hU
  refine aS (aS (aR ?_))
  (refine nx (aM (gN rfl) rfl rfl rfl rfl rfl) rfl ?_)
  (refine nx (aM (gN rfl) rfl rfl rfl rfl rfl) rfl ?_)
  (refine nx (a_sub (gN rfl) rfl rfl rfl rfl rfl rfl (by first | omega | (simp only [List.length_map, List.length_append, List.length_cons, List.length_nil] <;> omega) | (simp <;> omega))) rfl ?_)
  (refine nx (a_eql (gN rfl) rfl rfl rfl rfl rfl rfl) rfl ?_)
  show AWp _ _ _ _ _ _ _
  refine aC rfl (fun hc => ?_) (fun _ => aK ?_)
  case refine_1 =>
    have hc := of_decide_eq_true hc
    omega
  show AWp _ _ _ _ _ _ _
  refine aS (aS (aR ?_))
  (refine nx (aM (gN rfl) rfl rfl rfl rfl rfl) rfl ?_)
  (refine nx (aM (gN rfl) rfl rfl rfl rfl rfl) rfl ?_)
  (refine nx (a_sub (gN rfl) rfl rfl rfl rfl rfl rfl (by first | omega | (simp only [List.length_map, List.length_append, List.length_cons, List.length_nil] <;> omega) | (simp <;> omega))) rfl ?_)
  (refine nx (a_eql (gN rfl) rfl rfl rfl rfl rfl rfl) rfl ?_)
  show AWp _ _ _ _ _ _ _
  refine aC rfl (fun hc => ?_) (fun _ => aK ?_)
  case refine_1 =>
    have hc := of_decide_eq_true hc
    omega
  show AWp _ _ _ _ _ _ _
  have hw := mid_wrap (i := a) (j := b) (by omega) (by omega)
  refine aS (aR ?_)
  (refine nx (aM (gN rfl) rfl rfl rfl rfl rfl) rfl ?_)
  (refine nx (aM (gN rfl) rfl rfl rfl rfl rfl) rfl ?_)
  (refine nx (a_add (gN rfl) rfl rfl rfl rfl rfl rfl (by first | omega | (simp only [List.length_map, List.length_append, List.length_cons, List.length_nil] <;> omega) | (simp <;> omega))) rfl ?_)
  (refine nx (a_conv (gN rfl) rfl rfl rfl rfl rfl rfl rfl (by first | rfl | (rw [IntKind.wrap_i64]; omega) | assumption)) rfl ?_)
  (refine nx (a_shr (gN rfl) rfl rfl rfl rfl rfl rfl) rfl ?_)
  (refine nx (a_conv (gN rfl) rfl rfl rfl rfl rfl rfl rfl (by first | rfl | (rw [IntKind.wrap_i64]; omega) | assumption)) rfl ?_)
  (refine nx (aA (gN rfl) rfl rfl rfl rfl rfl) rfl ?_)
  show AWp _ _ _ _ _ _ _
  have hcast := mid_cast a b
  obtain ⟨mid, hmid⟩ : ∃ mid, mid = (a + b) / 2 := ⟨_, rfl⟩
  have hm2 : mid + mid ≤ a + b ∧ a + b ≤ mid + mid + 1 := by omega
  rw [← hmid] at hcast
  obtain ⟨N, hN⟩ : ∃ N, N = L.length := ⟨_, rfl⟩
  rw [← hN] at hb hl ⊢
  refine AWp.wk (wk_sub (s' := (0, AV.sl 400000 0 N 3) :: (1, .val (.i a)) :: (2, .val (.i m)) :: (3, .val (.i b)) :: (4, .val fc) :: (18, .val (.i (mid : Nat))) :: rwB L) ⟨by rw [hN]; rfl, rfl, rfl, rfl, rfl, by rw [← hcast]; rfl, rfl, trivial⟩) ?_
  refine aS (aR ?_)
  (refine nx (aM (gN rfl) rfl rfl rfl rfl rfl) rfl ?_)
  (refine nx (aM (gN rfl) rfl rfl rfl rfl rfl) rfl ?_)
  (refine nx (a_add (gN rfl) rfl rfl rfl rfl rfl rfl (by first | omega | (simp only [List.length_map, List.length_append, List.length_cons, List.length_nil] <;> omega) | (simp <;> omega))) rfl ?_)
  (refine nx (aA (gN rfl) rfl rfl rfl rfl rfl) rfl ?_)
  show AWp _ _ _ _ _ _ _
  refine aS (aR ?_)
  (refine nx (aA (gN rfl) rfl rfl rfl rfl rfl) rfl ?_)
  (refine nx (aA (gN rfl) rfl rfl rfl rfl rfl) rfl ?_)
  show AWp _ _ _ _ _ _ _
  obtain ⟨n, hn⟩ : ∃ n, n = mid + m := ⟨_, rfl⟩
  obtain ⟨s0, r0, h0⟩ : ∃ s0 r0, (m > mid ∧ s0 = n - b ∧ r0 = mid) ∨ (m ≤ mid ∧ s0 = a ∧ r0 = m) := by
    rcases Nat.lt_or_ge mid m with c | c
    · exact ⟨_, _, .inl ⟨c, rfl, rfl⟩⟩
    · exact ⟨_, _, .inr ⟨c, rfl, rfl⟩⟩
  refine awp_mid ((0, AV.sl 400000 0 N 3) :: (1, .val (.i a)) :: (2, .val (.i m)) :: (3, .val (.i b)) :: (4, .val fc) :: (18, .val (.i (mid : Nat))) :: (19, .val (.i (n : Nat))) :: (20, .val (.i (s0 : Nat))) :: (21, .val (.i (r0 : Nat))) :: rwB L) ?_ ?_
  · refine aS (aR ?_)
    (refine nx (aM (gN rfl) rfl rfl rfl rfl rfl) rfl ?_)
    (refine nx (aM (gN rfl) rfl rfl rfl rfl rfl) rfl ?_)
    (refine nx (a_gtr (gN rfl) rfl rfl rfl rfl rfl rfl) rfl ?_)
    show AWp _ _ _ _ _ _ _
    rcases h0 with ⟨c, e1, e2⟩ | ⟨c, e1, e2⟩
    · refine aC rfl (fun _ => ?_) (fun hc => ?_)
      case refine_2 =>
        have hc := of_decide_eq_false hc
        omega
      refine aS (aR ?_)
      (refine nx (aM (gN rfl) rfl rfl rfl rfl rfl) rfl ?_)
      (refine nx (aM (gN rfl) rfl rfl rfl rfl rfl) rfl ?_)
      (refine nx (a_sub (gN rfl) rfl rfl rfl rfl rfl rfl (by first | omega | (simp only [List.length_map, List.length_append, List.length_cons, List.length_nil] <;> omega) | (simp <;> omega))) rfl ?_)
      (refine nx (aA (gN rfl) rfl rfl rfl rfl rfl) rfl ?_)
      show AWp _ _ _ _ _ _ _
      refine aR ?_
      (refine nx (aM (gN rfl) rfl rfl rfl rfl rfl) rfl ?_)
      (refine nx (aA (gN rfl) rfl rfl rfl rfl rfl) rfl ?_)
      refine wk_sub ⟨rfl, rfl, rfl, rfl, rfl, rfl, ?_, ?_, ?_, rfl, trivial⟩
      · rw [show ((n : Nat) : Int) = (mid : Int) + m by omega]; rfl
      · rw [show ((s0 : Nat) : Int) = (mid : Int) + m - b by omega]; rfl
      · rw [e2]; rfl
    · refine aC rfl (fun hc => ?_) (fun _ => ?_)
      case refine_1 =>
        have hc := of_decide_eq_true hc
        omega
      refine aS (aR ?_)
      (refine nx (aM (gN rfl) rfl rfl rfl rfl rfl) rfl ?_)
      (refine nx (aA (gN rfl) rfl rfl rfl rfl rfl) rfl ?_)
      show AWp _ _ _ _ _ _ _
      refine aR ?_
      (refine nx (aM (gN rfl) rfl rfl rfl rfl rfl) rfl ?_)
      (refine nx (aA (gN rfl) rfl rfl rfl rfl rfl) rfl ?_)
      refine wk_sub ⟨rfl, rfl, rfl, rfl, rfl, rfl, ?_, ?_, ?_, rfl, trivial⟩
      · rw [show ((n : Nat) : Int) = (mid : Int) + m by omega]; rfl
      · rw [e1]; rfl
      · rw [e2]; rfl
  refine aS (aR ?_)
  (refine nx (aM (gN rfl) rfl rfl rfl rfl rfl) rfl ?_)
  (refine nx (a_sub (gN rfl) rfl rfl rfl rfl rfl rfl (by first | omega | (simp only [List.length_map, List.length_append, List.length_cons, List.length_nil] <;> omega) | (simp <;> omega))) rfl ?_)
  (refine nx (aA (gN rfl) rfl rfl rfl rfl rfl) rfl ?_)
  show AWp _ _ _ _ _ _ _
  have hidx : ∀ c, s0 ≤ c → c < r0 → a ≤ c ∧ c < m ∧ m ≤ n - 1 - c ∧ n - 1 - c < b ∧ c ≤ n - 1 := fun c k1 k2 => by omega
  have hsr : s0 ≤ r0 ∧ r0 ≤ m := by omega
  have hlm : (L.map Bd.cv).length = L.length := List.length_map ..
  obtain ⟨st, hst⟩ : ∃ st : Nat → Nat → AS, st = fun i j => (0, AV.sl 400000 0 N 3) :: (1, .val (.i a)) :: (2, .val (.i m)) :: (3, .val (.i b)) :: (4, .val fc) :: (18, .val (.i (mid : Nat))) :: (19, .val (.i (n : Nat))) :: (20, .val (.i (i : Nat))) :: (21, .val (.i (j : Nat))) :: (22, .val (.i ((n - 1 : Nat) : Int))) :: rwB L := ⟨_, rfl⟩
  refine aS (aB (awp_loop (fun k s => ∃ i j, k = j - i ∧ s0 ≤ i ∧ i ≤ j ∧ j ≤ r0 ∧ (∀ c x y, s0 ≤ c → c < i → L[c]? = some x → L[n - 1 - c]? = some y → x.v ≤ y.v) ∧ (∀ c x y, j ≤ c → c < r0 → L[c]? = some x → L[n - 1 - c]? = some y → y.v < x.v) ∧ s = st i j) (n := r0 - s0) (s' := st s0 r0) (by
    rw [hst]
    refine wk_sub ⟨rfl, rfl, rfl, rfl, rfl, rfl, rfl, rfl, rfl, ?_, rfl, trivial⟩
    rw [show ((n - 1 : Nat) : Int) = (n : Int) - 1 by omega]; rfl) ⟨s0, r0, rfl, Nat.le_refl _, hsr.1, Nat.le_refl _, fun c x y _ _ _ => by omega, fun c x y _ _ _ => by omega, rfl⟩ ?_))
  rintro k s ⟨i, j, rfl, hmi, hij, hjb, hlo, hhi, rfl⟩
  rw [hst]
  refine aS (aS (aR ?_))
  (refine nx (aM (gN rfl) rfl rfl rfl rfl rfl) rfl ?_)
  (refine nx (aM (gN rfl) rfl rfl rfl rfl rfl) rfl ?_)
  (refine nx (a_lss (gN rfl) rfl rfl rfl rfl rfl rfl) rfl ?_)
  show AWp _ _ _ _ _ _ _
  refine aC rfl (fun hc => aK ?_) (fun hc => aE ?_)
  · have hlt : i < j := by have := of_decide_eq_true hc; omega
    show AWp _ _ _ _ _ _ _
    have hw := mid_wrap (i := i) (j := j) (by omega) (by omega)
    refine aB (aS (aR ?_))
    (refine nx (aM (gN rfl) rfl rfl rfl rfl rfl) rfl ?_)
    (refine nx (aM (gN rfl) rfl rfl rfl rfl rfl) rfl ?_)
    (refine nx (a_add (gN rfl) rfl rfl rfl rfl rfl rfl (by first | omega | (simp only [List.length_map, List.length_append, List.length_cons, List.length_nil] <;> omega) | (simp <;> omega))) rfl ?_)
    (refine nx (a_conv (gN rfl) rfl rfl rfl rfl rfl rfl rfl (by first | rfl | (rw [IntKind.wrap_i64]; omega) | assumption)) rfl ?_)
    (refine nx (a_shr (gN rfl) rfl rfl rfl rfl rfl rfl) rfl ?_)
    (refine nx (a_conv (gN rfl) rfl rfl rfl rfl rfl rfl rfl (by first | rfl | (rw [IntKind.wrap_i64]; omega) | assumption)) rfl ?_)
    (refine nx (aA (gN rfl) rfl rfl rfl rfl rfl) rfl ?_)
    show AWp _ _ _ _ _ _ _
    have hh : i ≤ (i + j) / 2 ∧ (i + j) / 2 < j := by omega
    have hcast := mid_cast i j
    obtain ⟨h, hhd⟩ : ∃ h, h = (i + j) / 2 := ⟨_, rfl⟩
    rw [← hhd] at hh hcast
    obtain ⟨k1, k2, k3, k4, k5⟩ := hidx h (by omega) (by omega)
    refine AWp.wk (wk_sub (s' := (23, .val (.i (h : Nat))) :: (0, AV.sl 400000 0 N 3) :: (1, .val (.i a)) :: (2, .val (.i m)) :: (3, .val (.i b)) :: (4, .val fc) :: (18, .val (.i (mid : Nat))) :: (19, .val (.i (n : Nat))) :: (20, .val (.i (i : Nat))) :: (21, .val (.i (j : Nat))) :: (22, .val (.i ((n - 1 : Nat) : Int))) :: rwB L) ⟨by rw [← hcast]; rfl, rfl, rfl, rfl, rfl, rfl, rfl, rfl, rfl, rfl, rfl, rfl, trivial⟩) ?_
    obtain ⟨x, hx⟩ := bd_at (L := L) (t := n - 1 - h) (by omega)
    obtain ⟨y, hy⟩ := bd_at (L := L) (t := h) (by omega)
    have hx' := Bd.map_at hx
    have hy' := Bd.map_at hy
    refine aS (aD (by kernel_rfl) (by kernel_rfl) ?_)
    (refine nx (aM (gN rfl) rfl rfl rfl rfl rfl) rfl ?_)
    (refine nx (aM (gN rfl) rfl rfl rfl rfl rfl) rfl ?_)
    (refine nx (aM (gN rfl) rfl rfl rfl rfl rfl) rfl ?_)
    (refine nx (aM (gN rfl) rfl rfl rfl rfl rfl) rfl ?_)
    (refine nx (a_sub (gN rfl) rfl rfl rfl rfl rfl rfl (by first | omega | (simp only [List.length_map, List.length_append, List.length_cons, List.length_nil] <;> omega) | (simp <;> omega))) rfl ?_)
    (refine nx (aIm (k := n - 1 - h) (gN rfl) rfl rfl rfl rfl rfl rfl rfl rfl rfl (by first | rfl | omega | (simp only [List.length_set, List.length_map, List.length_append, List.length_cons, List.length_nil] <;> omega) | (simp <;> omega))) rfl ?_)
    (refine nx (a_loadM (gN rfl) rfl rfl rfl rfl rfl rfl rfl rfl (hx') rfl (by first | rfl | omega | (simp only [List.length_set, List.length_map, List.length_append, List.length_cons, List.length_nil] <;> omega) | (simp <;> omega)) rfl rfl) rfl ?_)
    (refine nx (aM (gN rfl) rfl rfl rfl rfl rfl) rfl ?_)
    (refine nx (aM (gN rfl) rfl rfl rfl rfl rfl) rfl ?_)
    (refine nx (aIm (k := h) (gN rfl) rfl rfl rfl rfl rfl rfl rfl rfl rfl (by first | rfl | omega | (simp only [List.length_set, List.length_map, List.length_append, List.length_cons, List.length_nil] <;> omega) | (simp <;> omega))) rfl ?_)
    (refine nx (a_loadM (gN rfl) rfl rfl rfl rfl rfl rfl rfl rfl (hy') rfl (by first | rfl | omega | (simp only [List.length_set, List.length_map, List.length_append, List.length_cons, List.length_nil] <;> omega) | (simp <;> omega)) rfl rfl) rfl ?_)
    (refine nx (a_callw (gN rfl) rfl rfl rfl rfl rfl rfl (hcm _ x y)) rfl ?_)
    (refine nx (a_lss (gN rfl) rfl rfl rfl rfl rfl rfl) rfl ?_)
    (refine nx (a_not (gN rfl) rfl rfl rfl rfl rfl) rfl ?_)
    refine ⟨by kernel_rfl, ?_⟩
    show AWp _ _ _ _ _ _ _
    refine aC rfl (fun c1 => ?_) (fun c1 => ?_)
    · have c2 : ¬ x.v < y.v := fun c => by
        have := (hv x y).2 c
        simp [this] at c1
      refine aR ?_
      (refine nx (aM (gN rfl) rfl rfl rfl rfl rfl) rfl ?_)
      (refine nx (a_add (gN rfl) rfl rfl rfl rfl rfl rfl (by first | omega | (simp only [List.length_map, List.length_append, List.length_cons, List.length_nil] <;> omega) | (simp <;> omega))) rfl ?_)
      (refine nx (aA (gN rfl) rfl rfl rfl rfl rfl) rfl ?_)
      refine ⟨j - (h + 1), st (h + 1) j, by omega, ⟨h + 1, j, rfl, by omega, by omega, hjb, fun c x' y' g1 g2 g3 g4 => ?_, hhi, by rw [hst]⟩, by rw [hst]; exact wk_sub ⟨rfl, rfl, rfl, rfl, rfl, rfl, rfl, rfl, rfl, rfl, rfl, trivial⟩⟩
      by_cases ct : c = h
      · rw [ct] at g3 g4
        rw [hy] at g3; rw [hx] at g4; cases g3; cases g4; omega
      · obtain ⟨l1, l2, l3, l4, l5⟩ := hidx c g1 (by omega)
        have e1 := h1 c h x' y (by omega) (by omega) (by omega) g3 hy
        have e2 := h2 (n - 1 - h) (n - 1 - c) x y' (by omega) (by omega) (by omega) hx g4
        omega
    · have c2 : x.v < y.v := (hv x y).1 (by simpa using c1)
      refine aR ?_
      (refine nx (aM (gN rfl) rfl rfl rfl rfl rfl) rfl ?_)
      (refine nx (aA (gN rfl) rfl rfl rfl rfl rfl) rfl ?_)
      refine ⟨h - i, st i h, by omega, ⟨i, h, rfl, hmi, by omega, by omega, hlo, fun c x' y' g1 g2 g3 g4 => ?_, by rw [hst]⟩, by rw [hst]; exact wk_sub ⟨rfl, rfl, rfl, rfl, rfl, rfl, rfl, rfl, rfl, rfl, rfl, trivial⟩⟩
      by_cases ct : c = h
      · rw [ct] at g3 g4
        rw [hy] at g3; rw [hx] at g4; cases g3; cases g4; omega
      · obtain ⟨l1, l2, l3, l4, l5⟩ := hidx c (by omega) g2
        have e1 := h1 h c y x' (by omega) (by omega) (by omega) hy g3
        have e2 := h2 (n - 1 - c) (n - 1 - h) y' x (by omega) (by omega) (by omega) g4 hx
        omega
  have hij' : i = j := by have := of_decide_eq_false hc; omega
  subst hij'
  have hcut : Cut L n s0 i r0 := ⟨hlo, hhi⟩
  obtain ⟨f1, f2, f3, f4, f5, f6, f7⟩ := hcut.sides (hN ▸ hb) ham hmb (by rw [hn, hmid]) (by rw [← hmid]; exact h0) h1 h2 hmi hjb
  rw [← hmid] at f5
  show AWp _ _ _ _ _ _ _
  refine aS (aR ?_)
  (refine nx (aM (gN rfl) rfl rfl rfl rfl rfl) rfl ?_)
  (refine nx (aM (gN rfl) rfl rfl rfl rfl rfl) rfl ?_)
  (refine nx (a_sub (gN rfl) rfl rfl rfl rfl rfl rfl (by first | omega | (simp only [List.length_map, List.length_append, List.length_cons, List.length_nil] <;> omega) | (simp <;> omega))) rfl ?_)
  (refine nx (aA (gN rfl) rfl rfl rfl rfl rfl) rfl ?_)
  show AWp _ _ _ _ _ _ _
  have hecast : ((n : Nat) : Int) - (i : Nat) = ((n - i : Nat) : Int) := by omega
  obtain ⟨e, he⟩ : ∃ e, e = n - i := ⟨_, rfl⟩
  rw [← he] at f3 f4 f5 f6 f7 hecast
  obtain ⟨st3, hst3⟩ : ∃ st : List Bd → AS, st = fun M => (0, AV.sl 400000 0 N 3) :: (1, .val (.i a)) :: (2, .val (.i m)) :: (3, .val (.i b)) :: (4, .val fc) :: (18, .val (.i (mid : Nat))) :: (20, .val (.i (i : Nat))) :: (24, .val (.i (e : Nat))) :: rwB M := ⟨_, rfl⟩
  refine AWp.wk (s' := st3 L) (by rw [hst3]; exact wk_sub ⟨rfl, rfl, rfl, rfl, rfl, rfl, rfl, by rw [← hecast]; rfl, rfl, trivial⟩) ?_
  refine awp_midE (fun M => IsG M N (rtG i m e fun t => L[t]?)) st3 ?_ ?_
  · rw [hst3]
    refine aS (aR ?_)
    rcases Nat.lt_or_ge i m with c | c
    · have g : decide (((i : Nat) : Int) < (m : Nat)) = true := decide_eq_true (by omega)
      (refine nx (aM (gN rfl) rfl rfl rfl rfl rfl) rfl ?_)
      (refine nx (aM (gN rfl) rfl rfl rfl rfl rfl) rfl ?_)
      (refine nx (a_lss (gN rfl) rfl rfl rfl rfl rfl rfl) rfl ?_)
      (refine nx (aM (gN rfl) rfl rfl rfl rfl rfl) rfl ?_)
      (refine nx (aM (gd_on rfl rfl rfl rfl (by first | rfl | assumption | (simp; done))) rfl rfl rfl rfl rfl) rfl ?_)
      (refine nx (aM (gd_on rfl rfl rfl rfl (by first | rfl | assumption | (simp; done))) rfl rfl rfl rfl rfl) rfl ?_)
      (refine nx (a_lss (gd_on rfl rfl rfl rfl (by first | rfl | assumption | (simp; done))) rfl rfl rfl rfl rfl rfl) rfl ?_)
      (refine ⟨_, _, _, aPt (gN rfl) rfl rfl rfl rfl rfl ?hb rfl, rfl, ?_⟩; case hb => (first | rfl | assumption | (simp; done)))
      show AWp _ _ _ _ _ _ _
      refine aC rfl (fun hc => ?_) (fun hc => aK ?_)
      · have hc := of_decide_eq_true hc
        have hr := rotate_abs fc L i m e c (by omega) (by omega) (by omega)
        rw [← hN] at hr
        refine awp_regionE 5 rfl rfl rfl rfl rfl rfl hr (by kernel_rfl) (fun σ => by kernel_rfl) (fun σ => by kernel_rfl) (fun σ => rfl) (fun σ => hnb_of (by kernel_rfl)) ?_
        (refine nx (aM (gN rfl) rfl rfl rfl rfl rfl) rfl ?_)
        (refine nx (aM (gN rfl) rfl rfl rfl rfl rfl) rfl ?_)
        (refine nx (aM (gN rfl) rfl rfl rfl rfl rfl) rfl ?_)
        (refine nx (aM (gN rfl) rfl rfl rfl rfl rfl) rfl ?_)
        (refine nx (aM (gN rfl) rfl rfl rfl rfl rfl) rfl ?_)
        refine ⟨rfl, ⟨rfl, trivial⟩, fun σ hσ => ⟨by kernel_rfl, ?_⟩⟩
        exact ⟨σ, hσ, wk_sub ⟨rfl, rfl, rfl, rfl, rfl, rfl, rfl, rfl, rfl, trivial⟩⟩
      · have hc := of_decide_eq_false hc
        exact ⟨L, by rw [hN]; exact rt_id f2 f3 (.inr (by omega)), wk_sub ⟨rfl, rfl, rfl, rfl, rfl, rfl, rfl, rfl, rfl, trivial⟩⟩
    · have g : decide (((i : Nat) : Int) < (m : Nat)) = false := decide_eq_false (by omega)
      (refine nx (aM (gN rfl) rfl rfl rfl rfl rfl) rfl ?_)
      (refine nx (aM (gN rfl) rfl rfl rfl rfl rfl) rfl ?_)
      (refine nx (a_lss (gN rfl) rfl rfl rfl rfl rfl rfl) rfl ?_)
      (refine nx (aM (gN rfl) rfl rfl rfl rfl rfl) rfl ?_)
      (refine ⟨_, _, _, a_off (go_off rfl rfl rfl rfl (by first | rfl | assumption | (simp; done) | (simp [*]; done))) rfl rfl rfl, rfl, ?_⟩)
      (refine ⟨_, _, _, a_off (go_off rfl rfl rfl rfl (by first | rfl | assumption | (simp; done) | (simp [*]; done))) rfl rfl rfl, rfl, ?_⟩)
      (refine ⟨_, _, _, a_off (go_off rfl rfl rfl rfl (by first | rfl | assumption | (simp; done) | (simp [*]; done))) rfl rfl rfl, rfl, ?_⟩)
      (refine ⟨_, _, _, aPf (gN rfl) rfl rfl rfl rfl rfl ?hb rfl, rfl, ?_⟩; case hb => (first | rfl | assumption | (simp; done)))
      show AWp _ _ _ _ _ _ _
      refine aC rfl (fun hc => ?_) (fun hc => aK ?_)
      · cases hc
      · exact ⟨L, by rw [hN]; exact rt_id f2 f3 (.inl (by omega)), wk_sub ⟨rfl, rfl, rfl, rfl, rfl, rfl, rfl, rfl, rfl, trivial⟩⟩
  intro M hM
  have hMl := hM.1
  have hM' := hM
  rw [hN] at hM'
  obtain ⟨t1, t2, t3, t4, t5⟩ := turn_facts f1 f2 f3 f4 (hN ▸ hb) f5 h1 h2 f6 f7 hM'
  have hg1 : Mg a b L M := (Mg.rt f2 f3 (by omega) hM').mono f1 f4
  refine awp_midE (fun M2 => Mg a mid M M2 ∧ srtB M2 a mid) st3 ?_ ?_
  · rw [hst3]
    refine aS (aR ?_)
    rcases Nat.lt_or_ge a i with c | c
    · have g : decide (((a : Nat) : Int) < (i : Nat)) = true := decide_eq_true (by omega)
      (refine nx (aM (gN rfl) rfl rfl rfl rfl rfl) rfl ?_)
      (refine nx (aM (gN rfl) rfl rfl rfl rfl rfl) rfl ?_)
      (refine nx (a_lss (gN rfl) rfl rfl rfl rfl rfl rfl) rfl ?_)
      (refine nx (aM (gN rfl) rfl rfl rfl rfl rfl) rfl ?_)
      (refine nx (aM (gd_on rfl rfl rfl rfl (by first | rfl | assumption | (simp; done))) rfl rfl rfl rfl rfl) rfl ?_)
      (refine nx (aM (gd_on rfl rfl rfl rfl (by first | rfl | assumption | (simp; done))) rfl rfl rfl rfl rfl) rfl ?_)
      (refine nx (a_lss (gd_on rfl rfl rfl rfl (by first | rfl | assumption | (simp; done))) rfl rfl rfl rfl rfl rfl) rfl ?_)
      (refine ⟨_, _, _, aPt (gN rfl) rfl rfl rfl rfl rfl ?hb rfl, rfl, ?_⟩; case hb => (first | rfl | assumption | (simp; done)))
      show AWp _ _ _ _ _ _ _
      refine aC rfl (fun hc => ?_) (fun hc => aK ?_)
      · have hc := of_decide_eq_true hc
        have hr := ih M a i mid (by omega) c (by omega) (by omega) (by omega) t1 t2
        rw [hMl] at hr
        refine awp_regionE 5 rfl rfl rfl rfl rfl rfl hr (by kernel_rfl) (fun σ => by kernel_rfl) (fun σ => by kernel_rfl) (fun σ => rfl) (fun σ => hnb_of (by kernel_rfl)) ?_
        (refine nx (aM (gN rfl) rfl rfl rfl rfl rfl) rfl ?_)
        (refine nx (aM (gN rfl) rfl rfl rfl rfl rfl) rfl ?_)
        (refine nx (aM (gN rfl) rfl rfl rfl rfl rfl) rfl ?_)
        (refine nx (aM (gN rfl) rfl rfl rfl rfl rfl) rfl ?_)
        (refine nx (aM (gN rfl) rfl rfl rfl rfl rfl) rfl ?_)
        refine ⟨rfl, ⟨rfl, trivial⟩, fun σ hσ => ⟨by kernel_rfl, ?_⟩⟩
        exact ⟨σ, hσ, wk_sub ⟨rfl, rfl, rfl, rfl, rfl, rfl, rfl, rfl, rfl, trivial⟩⟩
      · have hc := of_decide_eq_false hc
        exact ⟨M, ⟨Mg.refl _ _ _, by rw [show mid = i by omega]; exact t1⟩, wk_sub ⟨rfl, rfl, rfl, rfl, rfl, rfl, rfl, rfl, rfl, trivial⟩⟩
    · have g : decide (((a : Nat) : Int) < (i : Nat)) = false := decide_eq_false (by omega)
      (refine nx (aM (gN rfl) rfl rfl rfl rfl rfl) rfl ?_)
      (refine nx (aM (gN rfl) rfl rfl rfl rfl rfl) rfl ?_)
      (refine nx (a_lss (gN rfl) rfl rfl rfl rfl rfl rfl) rfl ?_)
      (refine nx (aM (gN rfl) rfl rfl rfl rfl rfl) rfl ?_)
      (refine ⟨_, _, _, a_off (go_off rfl rfl rfl rfl (by first | rfl | assumption | (simp; done) | (simp [*]; done))) rfl rfl rfl, rfl, ?_⟩)
      (refine ⟨_, _, _, a_off (go_off rfl rfl rfl rfl (by first | rfl | assumption | (simp; done) | (simp [*]; done))) rfl rfl rfl, rfl, ?_⟩)
      (refine ⟨_, _, _, a_off (go_off rfl rfl rfl rfl (by first | rfl | assumption | (simp; done) | (simp [*]; done))) rfl rfl rfl, rfl, ?_⟩)
      (refine ⟨_, _, _, aPf (gN rfl) rfl rfl rfl rfl rfl ?hb rfl, rfl, ?_⟩; case hb => (first | rfl | assumption | (simp; done)))
      show AWp _ _ _ _ _ _ _
      refine aC rfl (fun hc => ?_) (fun hc => aK ?_)
      · cases hc
      · exact ⟨M, ⟨Mg.refl _ _ _, by rw [show a = i by omega]; exact t2⟩, wk_sub ⟨rfl, rfl, rfl, rfl, rfl, rfl, rfl, rfl, rfl, trivial⟩⟩
  intro M2 hM2
  obtain ⟨hg2, u1⟩ := hM2
  have hMl2 : M2.length = N := hg2.len.trans hMl
  have u2 : srtB M2 mid e := t3.same fun t k1 k2 => hg2.out t (by omega)
  have u3 : srtB M2 e b := t4.same fun t k1 k2 => hg2.out t (by omega)
  have u4 : leB M2 a mid mid b := t5.mg (by omega) (by omega) (.inl hg2)
  have fin : ∀ σ, Mg mid b M2 σ → srtB σ mid b → symR a b L σ := fun σ g1 g2 =>
    ⟨(hg1.trans (hg2.mono (Nat.le_refl _) (by omega))).trans (g1.mono (by omega) (Nat.le_refl _)), (u1.same fun t k1 k2 => g1.out t (by omega)).glue g2 (u4.mg (by omega) (by omega) (.inr g1))⟩
  rw [hst3]
  refine aS (aR ?_)
  rcases Nat.lt_or_ge mid e with c | c
  · have g : decide (((mid : Nat) : Int) < (e : Nat)) = true := decide_eq_true (by omega)
    (refine nx (aM (gN rfl) rfl rfl rfl rfl rfl) rfl ?_)
    (refine nx (aM (gN rfl) rfl rfl rfl rfl rfl) rfl ?_)
    (refine nx (a_lss (gN rfl) rfl rfl rfl rfl rfl rfl) rfl ?_)
    (refine nx (aM (gN rfl) rfl rfl rfl rfl rfl) rfl ?_)
    (refine nx (aM (gd_on rfl rfl rfl rfl (by first | rfl | assumption | (simp; done))) rfl rfl rfl rfl rfl) rfl ?_)
    (refine nx (aM (gd_on rfl rfl rfl rfl (by first | rfl | assumption | (simp; done))) rfl rfl rfl rfl rfl) rfl ?_)
    (refine nx (a_lss (gd_on rfl rfl rfl rfl (by first | rfl | assumption | (simp; done))) rfl rfl rfl rfl rfl rfl) rfl ?_)
    (refine ⟨_, _, _, aPt (gN rfl) rfl rfl rfl rfl rfl ?hb rfl, rfl, ?_⟩; case hb => (first | rfl | assumption | (simp; done)))
    show AWp _ _ _ _ _ _ _
    refine aC rfl (fun hc => ?_) (fun hc => aK ?_)
    · have hc := of_decide_eq_true hc
      have hr := ih M2 mid e b (by omega) c (by omega) (by omega) (by omega) u2 u3
      rw [hMl2] at hr
      refine awp_regionE 5 rfl rfl rfl rfl rfl rfl hr (by kernel_rfl) (fun σ => by kernel_rfl) (fun σ => by kernel_rfl) (fun σ => rfl) (fun σ => hnb_of (by kernel_rfl)) ?_
      (refine nx (aM (gN rfl) rfl rfl rfl rfl rfl) rfl ?_)
      (refine nx (aM (gN rfl) rfl rfl rfl rfl rfl) rfl ?_)
      (refine nx (aM (gN rfl) rfl rfl rfl rfl rfl) rfl ?_)
      (refine nx (aM (gN rfl) rfl rfl rfl rfl rfl) rfl ?_)
      (refine nx (aM (gN rfl) rfl rfl rfl rfl rfl) rfl ?_)
      refine ⟨rfl, ⟨rfl, trivial⟩, fun σ hσ => ⟨by kernel_rfl, ?_⟩⟩
      exact ⟨.inl rfl, σ, fin σ hσ.1 hσ.2, _, Wk.refl _, rfl, rfl, trivial⟩
    · have hc := of_decide_eq_false hc
      exact ⟨.inl rfl, M2, fin M2 (Mg.refl _ _ _) (by rw [show b = e by omega]; exact u2), _, Wk.refl _, rfl, rfl, trivial⟩
  · have g : decide (((mid : Nat) : Int) < (e : Nat)) = false := decide_eq_false (by omega)
    (refine nx (aM (gN rfl) rfl rfl rfl rfl rfl) rfl ?_)
    (refine nx (aM (gN rfl) rfl rfl rfl rfl rfl) rfl ?_)
    (refine nx (a_lss (gN rfl) rfl rfl rfl rfl rfl rfl) rfl ?_)
    (refine nx (aM (gN rfl) rfl rfl rfl rfl rfl) rfl ?_)
    (refine ⟨_, _, _, a_off (go_off rfl rfl rfl rfl (by first | rfl | assumption | (simp; done) | (simp [*]; done))) rfl rfl rfl, rfl, ?_⟩)
    (refine ⟨_, _, _, a_off (go_off rfl rfl rfl rfl (by first | rfl | assumption | (simp; done) | (simp [*]; done))) rfl rfl rfl, rfl, ?_⟩)
    (refine ⟨_, _, _, a_off (go_off rfl rfl rfl rfl (by first | rfl | assumption | (simp; done) | (simp [*]; done))) rfl rfl rfl, rfl, ?_⟩)
    (refine ⟨_, _, _, aPf (gN rfl) rfl rfl rfl rfl rfl ?hb rfl, rfl, ?_⟩; case hb => (first | rfl | assumption | (simp; done)))
    show AWp _ _ _ _ _ _ _
    refine aC rfl (fun hc => ?_) (fun hc => aK ?_)
    · cases hc
    · exact ⟨.inl rfl, M2, fin M2 (Mg.refl _ _ _) (by rw [show mid = e by omega]; exact u3), _, Wk.refl _, rfl, rfl, trivial⟩
structure SkI (L : List Bd) (a j e : Nat) : Prop where
  oth : ∀ p q x y, a ≤ p → p < q → q < e → p ≠ j → q ≠ j → L[p]? = some x → L[q]? = some y → x.v ≤ y.v
  beh : ∀ q x y, j < q → q < e → L[j]? = some x → L[q]? = some y → x.v ≤ y.v
theorem sink_srt {cmp : Bd → Bd → Int} (hv : ∀ x y, cmp x y < 0 ↔ x.v < y.v) {a e : Nat} : ∀ (j : Nat) (L : List Bd), j < e → e ≤ L.length → SkI L a j e → Mg a e L (sink (ltC cmp) a j L) ∧ srtB (sink (ltC cmp) a j L) a e
  | 0, L, hj, he, h => ⟨Mg.refl _ _ _, fun p q x y k1 k2 k3 k4 k5 => by
      by_cases c : p = 0
      · subst c; exact h.beh q x y (by omega) k3 k4 k5
      · exact h.oth p q x y k1 k2 k3 c (by omega) k4 k5⟩
  | j + 1, L, hj, he, h => by
    by_cases ha : a < j + 1
    · obtain ⟨x, hx⟩ := bd_at (L := L) (t := j + 1) (by omega)
      obtain ⟨y, hy⟩ := bd_at (L := L) (t := j) (by omega)
      by_cases hlt : ltC cmp x y = true
      · rw [sink_yes _ _ hx hy ha hlt]
        have hxy : x.v < y.v := (hv x y).1 (of_decide_eq_true hlt)
        have hg : IsG ((L.set (j + 1) y).set j x) L.length (rtG j (j + 1) (j + 1 + 1) fun t => L[t]?) := rt_dn (Nat.le_refl _) (by omega) (rt_id (Nat.le_refl _) (by omega) (.inl rfl)) hx hy
        have hm := (Mg.rt (by omega) (by omega) (by omega) hg).mono (c := a) (d := e) (by omega) (by omega)
        have e1 : ((L.set (j + 1) y).set j x)[j]? = some x := by rw [List.getElem?_set, if_pos rfl, if_pos (by rw [List.length_set]; omega)]
        have e2 : ((L.set (j + 1) y).set j x)[j + 1]? = some y := by rw [List.getElem?_set, if_neg (by omega), List.getElem?_set, if_pos rfl, if_pos (by omega)]
        have e3 : ∀ t, t ≠ j → t ≠ j + 1 → ((L.set (j + 1) y).set j x)[t]? = L[t]? := fun t k1 k2 => by rw [List.getElem?_set, if_neg (by omega), List.getElem?_set, if_neg (by omega)]
        have hI : SkI ((L.set (j + 1) y).set j x) a j e := by
          refine ⟨fun p q x' y' k1 k2 k3 k4 k5 k6 k7 => ?_, fun q x' y' k1 k2 k3 k4 => ?_⟩
          · by_cases c1 : p = j + 1
            · subst c1
              rw [e2] at k6; cases k6
              rw [e3 q (by omega) (by omega)] at k7
              exact h.oth j q _ y' (by omega) (by omega) k3 (by omega) (by omega) hy k7
            · rw [e3 p k4 c1] at k6
              by_cases c2 : q = j + 1
              · subst c2
                rw [e2] at k7; cases k7
                exact h.oth p j x' _ k1 (by omega) (by omega) (by omega) (by omega) k6 hy
              · rw [e3 q k5 c2] at k7
                exact h.oth p q x' y' k1 k2 k3 c1 c2 k6 k7
          · rw [e1] at k3; cases k3
            by_cases c2 : q = j + 1
            · subst c2
              rw [e2] at k4; cases k4; omega
            · rw [e3 q (by omega) c2] at k4
              exact h.beh q _ y' (by omega) k2 hx k4
        obtain ⟨r1, r2⟩ := sink_srt hv j ((L.set (j + 1) y).set j x) (by omega) (by rw [List.length_set, List.length_set]; exact he) hI
        exact ⟨hm.trans r1, r2⟩
      · have hlt' : ltC cmp x y = false := by simpa using hlt
        rw [sink_no _ _ hx hy hlt']
        have hxy : ¬ x.v < y.v := fun c => by
          have := decide_eq_true ((hv x y).2 c)
          exact hlt this
        refine ⟨Mg.refl _ _ _, fun p q x' y' k1 k2 k3 k4 k5 => ?_⟩
        by_cases c1 : p = j + 1
        · subst c1; exact h.beh q x' y' k2 k3 k4 k5
        · by_cases c2 : q = j + 1
          · subst c2
            rw [hx] at k5; cases k5
            by_cases c3 : p = j
            · subst c3; rw [hy] at k4; cases k4; omega
            · have := h.oth p j x' y k1 (by omega) (by omega) c1 (by omega) k4 hy
              omega
          · exact h.oth p q x' y' k1 k2 k3 c1 c2 k4 k5
    · rw [sink_stop _ _ ha]
      refine ⟨Mg.refl _ _ _, fun p q x' y' k1 k2 k3 k4 k5 => ?_⟩
      by_cases c1 : p = j + 1
      · subst c1; exact h.beh q x' y' k2 k3 k4 k5
      · exact h.oth p q x' y' k1 k2 k3 c1 (by omega) k4 k5
theorem isort_srt {cmp : Bd → Bd → Int} (hv : ∀ x y, cmp x y < 0 ↔ x.v < y.v) {a : Nat} : ∀ (n i : Nat) (L : List Bd), a ≤ i → i + n ≤ L.length → srtB L a i → Mg a (i + n) L (isortN (ltC cmp) a n i L) ∧ srtB (isortN (ltC cmp) a n i L) a (i + n)
  | 0, i, L, ha, he, h => ⟨Mg.refl _ _ _, h⟩
  | n + 1, i, L, ha, he, h => by
    have hs := sink_srt hv (a := a) (e := i + 1) i L (by omega) (by omega) ⟨fun p q x y k1 k2 k3 k4 k5 k6 k7 => h p q x y k1 k2 (by omega) k6 k7, fun q x y k1 k2 _ _ => by omega⟩
    have hr := isort_srt hv n (i + 1) (sink (ltC cmp) a i L) (by omega) (by rw [sink_len]; omega) hs.2
    rw [show i + 1 + n = i + (n + 1) by omega] at hr
    exact ⟨(hs.1.mono (Nat.le_refl _) (by omega)).trans hr.1, hr.2⟩
theorem ins_srt {cmp : Bd → Bd → Int} (hv : ∀ x y, cmp x y < 0 ↔ x.v < y.v) {a b : Nat} (L : List Bd) (hab : a ≤ b) (hb : b ≤ L.length) : Mg a b L (isortN (ltC cmp) a (b - (a + 1)) (a + 1) L) ∧ srtB (isortN (ltC cmp) a (b - (a + 1)) (a + 1) L) a b := by
  by_cases c : a + 1 ≤ b
  · have h := isort_srt hv (a := a) (b - (a + 1)) (a + 1) L (by omega) (by omega) (fun p q x y _ _ _ _ _ => by omega)
    rw [show a + 1 + (b - (a + 1)) = b by omega] at h
    exact h
  · rw [show b - (a + 1) = 0 by omega]
    exact ⟨Mg.refl _ _ _, fun p q x y _ _ _ _ _ => by omega⟩
def blk (M : List Bd) (bs n a b : Nat) : Prop := ∀ lo, bs ∣ lo → a ≤ lo → lo < b → srtB M lo (min (lo + bs) n)
theorem dvd_gap {k x y : Nat} (hx : k ∣ x) (hy : k ∣ y) (h : x < y) : x + k ≤ y := by
  have := Nat.le_of_dvd (by omega) (Nat.dvd_sub hy hx)
  omega
theorem blk.mg {M σ : List Bd} {bs n a b c d : Nat} (h : blk M bs n a b) (hm : Mg c d M σ) (hs : (bs ∣ c ∧ b ≤ c) ∨ d ≤ a) : blk σ bs n a b := fun lo k1 k2 k3 => by
  refine (h lo k1 k2 k3).same fun t h1 h2 => hm.out t ?_
  rcases hs with ⟨s1, s2⟩ | s
  · have := dvd_gap k1 s1 (by omega)
    omega
  · omega
-- 
set_option maxHeartbeats 4000000 in
theorem stableE_abs (cmp : Bd → Bd → Int) (fc : CV) (hcm : ∀ W x y, AFunW Try.prog W fc [x.cw, y.cw] (.val (.i (cmp x y)))) (hv : ∀ x y, cmp x y < 0 ↔ x.v < y.v) (L : List Bd) (hl : L.length ≤ 1000000) : AFunE (Sg := List Bd) Try.prog 129 (rwB L) [.sl 400000 0 L.length 3, .val (.i L.length), .val fc] (symR 0 L.length L) (fun _ => .tup []) (fun σ => rwB σ) := by
  refine afunE_of Try.func129 Try.ntmps129 rfl rfl rfl rfl rfl (fun σ => rfl) ?_
  intro w U hU
  refine aS (aR ?_)
  (refine nx (aA (gN rfl) rfl rfl rfl rfl rfl) rfl ?_)
  show AWp _ _ _ _ _ _ _
  refine aS (aR ?_)
  (refine nx (aM (gN rfl) rfl rfl rfl rfl rfl) rfl ?_)
  (refine nx (aA (gN rfl) rfl rfl rfl rfl rfl) rfl ?_)
  (refine nx (aA (gN rfl) rfl rfl rfl rfl rfl) rfl ?_)
  show AWp _ _ _ _ _ _ _
  obtain ⟨N, hN⟩ : ∃ N, N = L.length := ⟨_, rfl⟩
  rw [← hN] at hl ⊢
  obtain ⟨st, hst⟩ : ∃ st : Nat → Nat → Nat → List Bd → AS, st = fun bs a b M => (0, AV.sl 400000 0 N 3) :: (1, .val (.i N)) :: (2, .val fc) :: (6, .val (.i (bs : Nat))) :: (7, .val (.i (a : Nat))) :: (8, .val (.i (b : Nat))) :: rwB M := ⟨_, rfl⟩
  refine aS (aB (awp_loop (fun k s => ∃ a M, k = N - a ∧ 20 ∣ a ∧ a ≤ N ∧ Mg 0 N L M ∧ blk M 20 N 0 a ∧ s = st 20 a (a + 20) M) (n := N - 0) (s' := st 20 0 (0 + 20) L) (by rw [hst, hN]; exact wk_sub ⟨rfl, rfl, rfl, rfl, rfl, rfl, rfl, trivial⟩) ⟨0, L, rfl, ⟨0, rfl⟩, Nat.zero_le _, Mg.refl _ _ _, fun lo _ _ h => by omega, rfl⟩ ?_))
  rintro k s ⟨a, M, rfl, hda, haN, hMg, hbl, rfl⟩
  have hMl : M.length = N := hMg.len.trans hN.symm
  rw [hst]
  refine aS (aS (aR ?_))
  (refine nx (aM (gN rfl) rfl rfl rfl rfl rfl) rfl ?_)
  (refine nx (aM (gN rfl) rfl rfl rfl rfl rfl) rfl ?_)
  (refine nx (a_leq (gN rfl) rfl rfl rfl rfl rfl rfl) rfl ?_)
  show AWp _ _ _ _ _ _ _
  refine aC rfl (fun hc => aK ?_) (fun hc => aE ?_)
  · have hlt : a + 20 ≤ N := by have := of_decide_eq_true hc; omega
    show AWp _ _ _ _ _ _ _
    have hins := insSort_abs cmp fc M a (a + 20) (by omega) (by omega) (by omega) hcm
    rw [hMl] at hins
    have hs := ins_srt hv (a := a) (b := a + 20) M (by omega) (by omega)
    obtain ⟨M', hM'⟩ : ∃ M', M' = isortN (ltC cmp) a (a + 20 - (a + 1)) (a + 1) M := ⟨_, rfl⟩
    rw [← hM'] at hins hs
    refine aB (aS (aR ?_))
    (refine nx (aM (gN rfl) rfl rfl rfl rfl rfl) rfl ?_)
    (refine nx (aM (gN rfl) rfl rfl rfl rfl rfl) rfl ?_)
    (refine nx (aM (gN rfl) rfl rfl rfl rfl rfl) rfl ?_)
    (refine nx (aM (gN rfl) rfl rfl rfl rfl rfl) rfl ?_)
    (refine nx (a_callO (gN rfl) rfl rfl rfl rfl rfl (hins) (by repeat (first | exact trivial | refine ⟨rfl, ?_⟩)) (by first | rfl | kernel_rfl) (by first | rfl | kernel_rfl) (by first | rfl | kernel_rfl) (by first | rfl | kernel_rfl) (hnb_of (by first | rfl | kernel_rfl))) rfl ?_)
    show AWp _ _ _ _ _ _ _
    refine aS (aR ?_)
    (refine nx (aM (gN rfl) rfl rfl rfl rfl rfl) rfl ?_)
    (refine nx (aA (gN rfl) rfl rfl rfl rfl rfl) rfl ?_)
    show AWp _ _ _ _ _ _ _
    refine aR ?_
    (refine nx (aM (gN rfl) rfl rfl rfl rfl rfl) rfl ?_)
    (refine nx (aM (gN rfl) rfl rfl rfl rfl rfl) rfl ?_)
    (refine nx (a_add (gN rfl) rfl rfl rfl rfl rfl rfl (by first | omega | (simp only [List.length_map, List.length_append, List.length_cons, List.length_nil] <;> omega) | (simp <;> omega))) rfl ?_)
    (refine nx (aA (gN rfl) rfl rfl rfl rfl rfl) rfl ?_)
    refine ⟨N - (a + 20), st 20 (a + 20) (a + 20 + 20) M', by omega, ⟨a + 20, M', rfl, Nat.dvd_add hda ⟨1, rfl⟩, hlt, hMg.trans (hs.1.mono (Nat.zero_le _) hlt), fun lo k1 k2 k3 => ?_, by rw [hst]⟩, by rw [hst]; exact wk_sub ⟨rfl, rfl, rfl, rfl, rfl, rfl, rfl, trivial⟩⟩
    by_cases c : lo < a
    · exact (hbl.mg hs.1 (.inl ⟨hda, Nat.le_refl _⟩)) lo k1 k2 c
    · have : lo = a := by
        rcases Nat.lt_or_ge a lo with c2 | c2
        · have := dvd_gap hda k1 c2
          omega
        · omega
      subst this
      rw [Nat.min_eq_left hlt]
      exact hs.2
  · have hge : N < a + 20 := by have := of_decide_eq_false hc; omega
    show AWp _ _ _ _ _ _ _
    have hins := insSort_abs cmp fc M a N (by omega) (by omega) (by omega) hcm
    rw [hMl] at hins
    have hs := ins_srt hv (a := a) (b := N) M haN (by omega)
    obtain ⟨M', hM'⟩ : ∃ M', M' = isortN (ltC cmp) a (N - (a + 1)) (a + 1) M := ⟨_, rfl⟩
    rw [← hM'] at hins hs
    refine aS (aR ?_)
    (refine nx (aM (gN rfl) rfl rfl rfl rfl rfl) rfl ?_)
    (refine nx (aM (gN rfl) rfl rfl rfl rfl rfl) rfl ?_)
    (refine nx (aM (gN rfl) rfl rfl rfl rfl rfl) rfl ?_)
    (refine nx (aM (gN rfl) rfl rfl rfl rfl rfl) rfl ?_)
    (refine nx (a_callO (gN rfl) rfl rfl rfl rfl rfl (hins) (by repeat (first | exact trivial | refine ⟨rfl, ?_⟩)) (by first | rfl | kernel_rfl) (by first | rfl | kernel_rfl) (by first | rfl | kernel_rfl) (by first | rfl | kernel_rfl) (hnb_of (by first | rfl | kernel_rfl))) rfl ?_)
    show AWp _ _ _ _ _ _ _
    obtain ⟨st2, hst2⟩ : ∃ st : Nat → List Bd → AS, st = fun bs M => (0, AV.sl 400000 0 N 3) :: (1, .val (.i N)) :: (2, .val fc) :: (6, .val (.i (bs : Nat))) :: rwB M := ⟨_, rfl⟩
    have hb0 : blk M' 20 N 0 N := fun lo k1 k2 k3 => by
      by_cases c : lo < a
      · exact (hbl.mg hs.1 (.inl ⟨hda, Nat.le_refl _⟩)) lo k1 k2 c
      · have : lo = a := by
          rcases Nat.lt_or_ge a lo with c2 | c2
          · have := dvd_gap hda k1 c2
            omega
          · omega
        subst this
        rw [Nat.min_eq_right (by omega)]
        exact hs.2
    refine aB (awp_loop (fun k s => ∃ bs M, k = 2 * N - bs ∧ 0 < bs ∧ (bs ≤ 20 ∨ bs ≤ 2 * N) ∧ Mg 0 N L M ∧ blk M bs N 0 N ∧ s = st2 bs M) (n := 2 * N - 20) (s' := st2 20 M') (by rw [hst2]; exact wk_sub ⟨rfl, rfl, rfl, rfl, rfl, trivial⟩) ⟨20, M', rfl, by omega, .inl (Nat.le_refl _), hMg.trans (hs.1.mono (Nat.zero_le _) (Nat.le_refl _)), hb0, rfl⟩ ?_)
    clear hs hb0 hins hM' M' hMg hbl hMl M hge hc haN hda a
    rintro k s ⟨bs, M, rfl, hbs, hbn, hMg, hbl, rfl⟩
    rw [hst2]
    refine aS (aS (aR ?_))
    (refine nx (aM (gN rfl) rfl rfl rfl rfl rfl) rfl ?_)
    (refine nx (aM (gN rfl) rfl rfl rfl rfl rfl) rfl ?_)
    (refine nx (a_lss (gN rfl) rfl rfl rfl rfl rfl rfl) rfl ?_)
    show AWp _ _ _ _ _ _ _
    refine aC rfl (fun hc => aK ?_) (fun hc => aE ?_)
    · have hlt : bs < N := by have := of_decide_eq_true hc; omega
      show AWp _ _ _ _ _ _ _
      refine aB (aS (aR ?_))
      (refine nx (aM (gN rfl) rfl rfl rfl rfl rfl) rfl ?_)
      (refine nx (a_mul (gN rfl) rfl rfl rfl rfl rfl rfl (by first | omega | (simp only [List.length_map, List.length_append, List.length_cons, List.length_nil] <;> omega) | (simp <;> omega))) rfl ?_)
      (refine nx (aA (gN rfl) rfl rfl rfl rfl rfl) rfl ?_)
      (refine nx (aA (gN rfl) rfl rfl rfl rfl rfl) rfl ?_)
      show AWp _ _ _ _ _ _ _
      refine aS (aB (awp_loop (fun k s => ∃ a M, k = N - a ∧ 2 * bs ∣ a ∧ a ≤ N ∧ Mg 0 N L M ∧ blk M (2 * bs) N 0 a ∧ blk M bs N a N ∧ s = st bs a (a + 2 * bs) M) (n := N - 0) (s' := st bs 0 (0 + 2 * bs) M) (by
        rw [hst]
        refine wk_sub ⟨rfl, rfl, rfl, rfl, rfl, ?_, rfl, trivial⟩
        rw [show ((0 + 2 * bs : Nat) : Int) = 2 * (bs : Int) by omega]; rfl) ⟨0, M, rfl, ⟨0, rfl⟩, Nat.zero_le _, hMg, fun lo _ _ h => by omega, hbl, rfl⟩ ?_))
      clear hMg hbl M
      rintro k s ⟨a, M, rfl, hda, haN, hMg, hbl, hbr, rfl⟩
      have hMl : M.length = N := hMg.len.trans hN.symm
      have hda1 : bs ∣ a := Nat.dvd_trans ⟨2, by omega⟩ hda
      rw [hst]
      refine aS (aS (aR ?_))
      (refine nx (aM (gN rfl) rfl rfl rfl rfl rfl) rfl ?_)
      (refine nx (aM (gN rfl) rfl rfl rfl rfl rfl) rfl ?_)
      (refine nx (a_leq (gN rfl) rfl rfl rfl rfl rfl rfl) rfl ?_)
      show AWp _ _ _ _ _ _ _
      refine aC rfl (fun hc => aK ?_) (fun hc => aE ?_)
      · have hle : a + 2 * bs ≤ N := by have := of_decide_eq_true hc; omega
        show AWp _ _ _ _ _ _ _
        have p1 := hbr a hda1 (Nat.le_refl _) (by omega)
        have p2 := hbr (a + bs) (Nat.dvd_add hda1 (Nat.dvd_refl _)) (by omega) (by omega)
        rw [Nat.min_eq_left (by omega)] at p1 p2
        have hr := symM_abs cmp fc hcm hv (a + 2 * bs - a) M a (a + bs) (a + 2 * bs) (Nat.le_refl _) (by omega) (by omega) (by omega) (by omega) p1 (by rw [show a + 2 * bs = a + bs + bs by omega]; exact p2)
        rw [hMl] at hr
        refine aB (aS (awp_regionE 7 rfl rfl rfl rfl rfl rfl hr (by kernel_rfl) (fun σ => by kernel_rfl) (fun σ => by kernel_rfl) (fun σ => rfl) (fun σ => hnb_of (by kernel_rfl)) ?_))
        (refine nx (aM (gN rfl) rfl rfl rfl rfl rfl) rfl ?_)
        (refine nx (aM (gN rfl) rfl rfl rfl rfl rfl) rfl ?_)
        (refine nx (aM (gN rfl) rfl rfl rfl rfl rfl) rfl ?_)
        (refine nx (aM (gN rfl) rfl rfl rfl rfl rfl) rfl ?_)
        (refine nx (a_add (gN rfl) rfl rfl rfl rfl rfl rfl (by first | omega | (simp only [List.length_map, List.length_append, List.length_cons, List.length_nil] <;> omega) | (simp <;> omega))) rfl ?_)
        (refine nx (aM (gN rfl) rfl rfl rfl rfl rfl) rfl ?_)
        (refine nx (aM (gN rfl) rfl rfl rfl rfl rfl) rfl ?_)
        refine ⟨rfl, ⟨rfl, trivial⟩, fun σ hσ => ⟨by kernel_rfl, ?_⟩⟩
        show AWp _ _ _ _ _ _ _
        refine aS (aR ?_)
        (refine nx (aM (gN rfl) rfl rfl rfl rfl rfl) rfl ?_)
        (refine nx (aA (gN rfl) rfl rfl rfl rfl rfl) rfl ?_)
        show AWp _ _ _ _ _ _ _
        refine aR ?_
        (refine nx (aM (gN rfl) rfl rfl rfl rfl rfl) rfl ?_)
        (refine nx (aM (gN rfl) rfl rfl rfl rfl rfl) rfl ?_)
        (refine nx (a_mul (gN rfl) rfl rfl rfl rfl rfl rfl (by first | omega | (simp only [List.length_map, List.length_append, List.length_cons, List.length_nil] <;> omega) | (simp <;> omega))) rfl ?_)
        (refine nx (a_add (gN rfl) rfl rfl rfl rfl rfl rfl (by first | omega | (simp only [List.length_map, List.length_append, List.length_cons, List.length_nil] <;> omega) | (simp <;> omega))) rfl ?_)
        (refine nx (aA (gN rfl) rfl rfl rfl rfl rfl) rfl ?_)
        refine ⟨N - (a + 2 * bs), st bs (a + 2 * bs) (a + 2 * bs + 2 * bs) σ, by omega, ⟨a + 2 * bs, σ, rfl, Nat.dvd_add hda (Nat.dvd_refl _), hle, hMg.trans (hσ.1.mono (Nat.zero_le _) hle), fun lo k1 k2 k3 => ?_, ?_, by rw [hst]⟩, ?_⟩
        · by_cases c : lo < a
          · exact (hbl.mg hσ.1 (.inl ⟨hda, Nat.le_refl _⟩)) lo k1 k2 c
          · have : lo = a := by
              rcases Nat.lt_or_ge a lo with c2 | c2
              · have := dvd_gap hda k1 c2
                omega
              · omega
            subst this
            rw [Nat.min_eq_left hle]
            exact hσ.2
        · exact fun lo k1 k2 k3 => (hbr lo k1 (by omega) k3).same fun t h1 h2 => hσ.1.out t (by omega)
        · rw [hst]
          exact wk_sub ⟨rfl, rfl, rfl, rfl, rfl, rfl, rfl, trivial⟩
      · have hge : N < a + 2 * bs := by have := of_decide_eq_false hc; omega
        show AWp _ _ _ _ _ _ _
        refine awp_midE (fun M2 => Mg 0 N L M2 ∧ blk M2 (2 * bs) N 0 N) (st2 bs) ?_ ?_
        · have hfin : ∀ σ, Mg a N M σ → srtB σ a N → Mg 0 N L σ ∧ blk σ (2 * bs) N 0 N := fun σ g1 g2 =>
            ⟨hMg.trans (g1.mono (Nat.zero_le _) (Nat.le_refl _)), fun lo k1 k2 k3 => by
              by_cases c : lo < a
              · exact (hbl.mg g1 (.inl ⟨hda, Nat.le_refl _⟩)) lo k1 k2 c
              · have : lo = a := by
                  rcases Nat.lt_or_ge a lo with c2 | c2
                  · have := dvd_gap hda k1 c2
                    omega
                  · omega
                subst this
                rw [Nat.min_eq_right (by omega)]
                exact g2⟩
          refine aS (aR ?_)
          (refine nx (aM (gN rfl) rfl rfl rfl rfl rfl) rfl ?_)
          (refine nx (aM (gN rfl) rfl rfl rfl rfl rfl) rfl ?_)
          (refine nx (a_add (gN rfl) rfl rfl rfl rfl rfl rfl (by first | omega | (simp only [List.length_map, List.length_append, List.length_cons, List.length_nil] <;> omega) | (simp <;> omega))) rfl ?_)
          (refine nx (aA (gN rfl) rfl rfl rfl rfl rfl) rfl ?_)
          show AWp _ _ _ _ _ _ _
          refine aS (aR ?_)
          (refine nx (aM (gN rfl) rfl rfl rfl rfl rfl) rfl ?_)
          (refine nx (aM (gN rfl) rfl rfl rfl rfl rfl) rfl ?_)
          (refine nx (a_lss (gN rfl) rfl rfl rfl rfl rfl rfl) rfl ?_)
          show AWp _ _ _ _ _ _ _
          refine aC rfl (fun hc => ?_) (fun hc => aK ?_)
          · have hm : a + bs < N := by have := of_decide_eq_true hc; omega
            have p1 := hbr a hda1 (Nat.le_refl _) (by omega)
            have p2 := hbr (a + bs) (Nat.dvd_add hda1 (Nat.dvd_refl _)) (by omega) (by omega)
            rw [Nat.min_eq_left (by omega)] at p1
            rw [Nat.min_eq_right (by omega)] at p2
            have hr := symM_abs cmp fc hcm hv (N - a) M a (a + bs) N (Nat.le_refl _) (by omega) (by omega) (by omega) (by omega) p1 p2
            rw [hMl] at hr
            refine awp_regionE 5 rfl rfl rfl rfl rfl rfl hr (by kernel_rfl) (fun σ => by kernel_rfl) (fun σ => by kernel_rfl) (fun σ => rfl) (fun σ => hnb_of (by kernel_rfl)) ?_
            (refine nx (aM (gN rfl) rfl rfl rfl rfl rfl) rfl ?_)
            (refine nx (aM (gN rfl) rfl rfl rfl rfl rfl) rfl ?_)
            (refine nx (aM (gN rfl) rfl rfl rfl rfl rfl) rfl ?_)
            (refine nx (aM (gN rfl) rfl rfl rfl rfl rfl) rfl ?_)
            (refine nx (aM (gN rfl) rfl rfl rfl rfl rfl) rfl ?_)
            refine ⟨rfl, ⟨rfl, trivial⟩, fun σ hσ => ⟨by kernel_rfl, ?_⟩⟩
            exact ⟨σ, hfin σ hσ.1 hσ.2, by rw [hst2]; exact wk_sub ⟨rfl, rfl, rfl, rfl, rfl, trivial⟩⟩
          · have hm : N ≤ a + bs := by have := of_decide_eq_false hc; omega
            refine ⟨M, hfin M (Mg.refl _ _ _) ?_, by rw [hst2]; exact wk_sub ⟨rfl, rfl, rfl, rfl, rfl, trivial⟩⟩
            by_cases c : a < N
            · have p1 := hbr a hda1 (Nat.le_refl _) c
              rw [Nat.min_eq_right hm] at p1
              exact p1
            · exact fun p q x y _ _ _ _ _ => by omega
        intro M2 hM2
        rw [hst2]
        refine aR ?_
        (refine nx (aM (gN rfl) rfl rfl rfl rfl rfl) rfl ?_)
        (refine nx (a_mul (gN rfl) rfl rfl rfl rfl rfl rfl (by first | omega | (simp only [List.length_map, List.length_append, List.length_cons, List.length_nil] <;> omega) | (simp <;> omega))) rfl ?_)
        (refine nx (aA (gN rfl) rfl rfl rfl rfl rfl) rfl ?_)
        refine ⟨2 * N - bs * 2, st2 (bs * 2) M2, by omega, ⟨bs * 2, M2, rfl, by omega, .inr (by omega), hM2.1, by rw [Nat.mul_comm]; exact hM2.2, by rw [hst2]⟩, by rw [hst2]; exact wk_sub ⟨rfl, rfl, rfl, rfl, rfl, trivial⟩⟩
    · have hge : N ≤ bs := by have := of_decide_eq_false hc; omega
      refine ⟨.inl rfl, M, ⟨hMg, ?_⟩, _, Wk.refl _, rfl, rfl, trivial⟩
      by_cases c : 0 < N
      · have := hbl 0 ⟨0, rfl⟩ (Nat.le_refl _) c
        rw [Nat.zero_add, Nat.min_eq_right hge] at this
        exact this
      · exact fun p q x y _ _ _ _ _ => by omega
-- 
theorem sortStableE_abs (cmp : Bd → Bd → Int) (fc : CV) (hcm : ∀ W x y, AFunW Try.prog W fc [x.cw, y.cw] (.val (.i (cmp x y)))) (hv : ∀ x y, cmp x y < 0 ↔ x.v < y.v) (L : List Bd) (hl : L.length ≤ 1000000) : AFunE (Sg := List Bd) Try.prog 97 (rwB L) [.sl 400000 0 L.length 3, .val fc] (symR 0 L.length L) (fun _ => .tup []) (fun σ => rwB σ) := by
  refine afunE_of Try.func97 Try.ntmps97 rfl rfl rfl rfl rfl (fun σ => rfl) ?_
  intro w U hU
  have hr := stableE_abs cmp fc hcm hv L hl
  refine awp_regionE 4 rfl rfl rfl rfl rfl rfl hr (by kernel_rfl) (fun σ => by kernel_rfl) (fun σ => by kernel_rfl) (fun σ => rfl) (fun σ => hnb_of (by kernel_rfl)) ?_
  (refine nx (aM (gN rfl) rfl rfl rfl rfl rfl) rfl ?_)
  (refine nx (aM (gN rfl) rfl rfl rfl rfl rfl) rfl ?_)
  (refine nx (a_lenM (gN rfl) rfl rfl rfl rfl rfl rfl rfl) rfl ?_)
  (refine nx (aM (gN rfl) rfl rfl rfl rfl rfl) rfl ?_)
  refine ⟨rfl, ⟨rfl, trivial⟩, fun σ hσ => ⟨by kernel_rfl, ?_⟩⟩
  exact ⟨.inl rfl, σ, hσ, _, Wk.refl _, rfl, rfl, trivial⟩
theorem AFunE.one {P : Program} {Sg : Type} {R : Sg → Prop} {r : Sg → AV} {post : Sg → AS} {f : FuncId} {pre : AS} {args : List AV} {σ0 : Sg} (h : AFunE P f pre args R r post) (hone : ∀ σ, R σ → σ = σ0) : AFunO P f pre args (r σ0) (post σ0) :=
  ⟨h.1, fun U w hv a0 vs hU hp ha => (h.2 U w hv a0 vs hU hp ha).mono fun e w' ⟨σ, k1, k2⟩ => by rw [hone σ k1] at k2; exact k2⟩
theorem lt_eq : ∀ {A B : List Bd}, A.Pairwise (fun x y => x.v < y.v) → B.Pairwise (fun x y => x.v < y.v) → (∀ x, x ∈ A ↔ x ∈ B) → A = B
  | [], [], _, _, _ => rfl
  | [], b :: B, _, _, h => by have := (h b).2 List.mem_cons_self; cases this
  | a :: A, [], _, _, h => by have := (h a).1 List.mem_cons_self; cases this
  | a :: A, b :: B, hA, hB, h => by
    obtain ⟨a1, a2⟩ := List.pairwise_cons.1 hA
    obtain ⟨b1, b2⟩ := List.pairwise_cons.1 hB
    have e : a = b := by
      rcases List.mem_cons.1 ((h a).1 List.mem_cons_self) with e | e
      · exact e
      · rcases List.mem_cons.1 ((h b).2 List.mem_cons_self) with e' | e'
        · exact e'.symm
        · have := a1 b e'
          have := b1 a e
          omega
    subst e
    rw [lt_eq a2 b2 fun x => ⟨fun hx => ?_, fun hx => ?_⟩]
    · rcases List.mem_cons.1 ((h x).1 (List.mem_cons_of_mem _ hx)) with e | e
      · have := a1 x hx
        rw [e] at this
        omega
      · exact e
    · rcases List.mem_cons.1 ((h x).2 (List.mem_cons_of_mem _ hx)) with e | e
      · have := b1 x hx
        rw [e] at this
        omega
      · exact e
theorem sym_pair {L σ : List Bd} (hd : (L.map Bd.v).Nodup) (h : symR 0 L.length L σ) : σ.Pairwise (fun x y => x.v < y.v) := by
  have hp := h.1.perm
  have hn : (σ.map Bd.v).Nodup := (hp.map Bd.v).nodup_iff.2 hd
  rw [List.pairwise_iff_getElem]
  intro i j hi hj hij
  have h1 := h.2 i j σ[i] σ[j] (Nat.zero_le _) hij (by rw [← h.1.len]; exact hj) (List.getElem?_eq_getElem hi) (List.getElem?_eq_getElem hj)
  have h2 := (List.pairwise_iff_getElem.1 hn) i j (by simpa using hi) (by simpa using hj) hij
  simp only [List.getElem_map] at h2
  omega
theorem cmpB_lt (x y : Bd) : cmpB x y < 0 ↔ x.v < y.v := by
  unfold cmpB cmpZ
  split
  · simp_all
  · split <;> simp_all <;> omega
theorem sym_sort {L σ : List Bd} (hd : (L.map Bd.v).Nodup) (h : symR 0 L.length L σ) : σ = sortF L := by
  have hs := ins_srt cmpB_lt (a := 0) (b := L.length) L (Nat.zero_le _) (Nat.le_refl _)
  rw [Nat.zero_add] at hs
  refine lt_eq (sym_pair hd h) (sym_pair hd hs) fun x => ?_
  rw [h.1.perm.mem_iff]
  exact hs.1.perm.mem_iff.symm
theorem normD_abs (W : World) (L : List Bd) (hl : L.length ≤ 1000000) (hd : (L.map Bd.v).Nodup) (hb : bdsOk L) : AFun Try.prog W 45 [.lst (L.map Bd.cv)] (.val (.lst ((normF L).map Bd.cv))) :=
  normG_abs W L hl hb (firstsG_abs L hl ((sortStableE_abs cmpB (.sc (.func (.func 98) #[] #[])) (fun W x y => .inr ⟨_, rfl, cmpB_abs W x y⟩) cmpB_lt L hl).one fun σ hσ => sym_sort hd hσ))
theorem vr_len {c : Cl} {H r : Nat → Nat} {E} (h : ClsC c H r E) (hv : vrOk c.vr) : c.vr.length ≤ c.ns.length := by
  have hn : (c.vr.map Prod.snd).Nodup := by
    have h1 : c.vr.Pairwise (fun a b => a.1 ≠ b.1) := List.pairwise_map.1 hv.1
    refine List.pairwise_map.2 (List.Pairwise.imp_of_mem (fun {a b} ha hb hab e => hab ?_) h1)
    have e1 := (h.vrt a.1 a.2 (lookV_mem hv.1 ha)).2
    have e2 := (h.vrt b.1 b.2 (lookV_mem hv.1 hb)).2
    rw [e] at e1
    omega
  have := nodup_le c.ns.length hn (fun x hx => by
    obtain ⟨p, hp, rfl⟩ := List.mem_map.1 hx
    exact (h.vrt p.1 p.2 (lookV_mem hv.1 hp)).1)
  simpa using this
def ToldU (l : List (Tm × Tm)) (r : List Bd × Bool) : Prop := (r.2 = false ∧ r.1 = [] ∧ ∀ τ, ¬ uni τ l) ∨ (r.2 = true ∧ ∃ s : List Bd, Mgu (imgB s) l ∧ (∀ b ∈ s, 0 ≤ b.v) ∧ (∀ v, 0 ≤ v → imgB s v = varT v ∨ ((imgB s v).rng ∧ (imgB s v).size ≤ 90000000000)) ∧ r.1 = normF s)
theorem ToldU.no {l : List (Tm × Tm)} {r : List Bd × Bool} (h : ToldU l r) (hn : ∀ τ, ¬ uni τ l) : r = ([], false) := by
  rcases h with ⟨h1, h2, _⟩ | ⟨_, s, hs, _⟩
  · cases r; simp_all
  · exact absurd hs.uni (hn _)
theorem ToldU.yes {l : List (Tm × Tm)} {r : List Bd × Bool} (h : ToldU l r) {u : List Bd} (hu : Mgu (imgB u) l) (hu0 : ∀ b ∈ u, 0 ≤ b.v) : r = (normF u, true) ∧ ∀ v, 0 ≤ v → imgB u v = varT v ∨ ((imgB u v).rng ∧ (imgB u v).size ≤ 90000000000) := by
  rcases h with ⟨_, _, h3⟩ | ⟨h1, s, hs, h0, hb, h2⟩
  · exact absurd hu.uni (h3 _)
  · refine ⟨?_, fun v hv => by rw [hs.one hu hv]; exact hb v hv⟩
    rw [← mgu_norm h0 hu0 hs hu, ← h2, ← h1]
theorem told_bind {l : List (Tm × Tm)} {r : List Bd × Bool} (h : ToldU l r) {vr vr' : List (Int × Nat)} (hv : vrOk vr) (hvb : ∀ p ∈ vr, p.1 ≤ 9223372036854775807) (hp : vr'.Perm vr) {g : Nat → Tm} {u : List Bd} (hu : u = vr'.map fun p => (⟨p.1, g p.2⟩ : Bd)) (hm : ∀ s : List Bd, (∀ v, findB s v = (lookV vr v).map g) → Mgu (imgB s) l) : r = (normF u, true) ∧ (u.map Bd.v).Nodup ∧ bdsOk u := by
  have hf : ∀ v, findB u v = (lookV vr v).map g := fun v => by rw [hu]; exact findB_bind hv.1 hp g v
  have hu0 : ∀ b ∈ u, 0 ≤ b.v := fun b hb => by
    rw [hu] at hb
    obtain ⟨p, hp2, rfl⟩ := List.mem_map.1 hb
    exact hv.2 p (hp.mem_iff.1 hp2)
  obtain ⟨h1, h2⟩ := h.yes (hm u hf) hu0
  refine ⟨h1, ?_, fun b hb => ?_⟩
  · rw [hu, List.map_map]
    exact (hp.map Prod.fst).nodup_iff.2 hv.1
  · have h3 := h2 b.v (hu0 b hb)
    have e : imgB u b.v = b.t := by
      unfold imgB
      rw [hf]
      rw [hu] at hb
      obtain ⟨p, hp2, rfl⟩ := List.mem_map.1 hb
      show ((lookV vr p.1).map g).getD _ = _
      rw [lookV_mem hv.1 (hp.mem_iff.1 hp2)]
      rfl
    rw [e] at h3
    rcases h3 with h3 | h3
    · rw [h3]
      have hb1 : b.v ≤ 9223372036854775807 := by
        rw [hu] at hb
        obtain ⟨p, hp2, rfl⟩ := List.mem_map.1 hb
        exact hvb p (hp.mem_iff.1 hp2)
      have hb0 := hu0 b hb
      exact ⟨leaf_rng (by omega) (by omega), by rw [Tm.size_var (by rw [varT_f]; omega)]; decide⟩
    · exact h3
-- 
set_option maxHeartbeats 2000000 in
theorem uPairs_abs (W : World) (l : List (Tm × Tm)) (hl : ∀ p ∈ l, (p.1.rng ∧ p.1.ok) ∧ (p.2.rng ∧ p.2.ok)) (hpl : plcS l ≤ 1000) (r : List Bd × Bool) (hT : ToldU l r) : AFun Try.prog W 23 [.lst (l.map prv)] (.tup [.lst (r.1.map Bd.cv), .b r.2]) := by
  obtain ⟨k, j, e1, f1, f2⟩ := pairs_spec l
  have hj := e1 k (Nat.le_refl _)
  have hja := uJoinAll_abs k l j hj hl hpl
  refine afun_of (rs := [.lst (r.1.map Bd.cv), .b r.2]) Try.func23 Try.ntmps23 rfl rfl rfl rfl ?_
  intro w U hW
  refine aS (aR ?_)
  (refine nx (aA (gN rfl) rfl rfl rfl rfl rfl) rfl ?_)
  (refine nx (aA (gN rfl) rfl rfl rfl rfl rfl) rfl ?_)
  show AWp _ _ _ _ _ _ _
  refine aS (aR ?_)
  (refine nx (a_callO (gN rfl) rfl rfl rfl rfl rfl (newC_abs) (by repeat (first | exact trivial | refine ⟨rfl, ?_⟩)) rfl rfl rfl rfl (fun k v h => by first | (rw [hW.1] at h; cases h) | (have h2 := hU k v h; cases h2))) rfl ?_)
  (refine nx (aA (gN rfl) rfl rfl rfl rfl rfl) rfl ?_)
  show AWp _ _ _ _ _ _ _
  refine aS (aS (aR ?_))
  (refine nx (aM (gN rfl) rfl rfl rfl rfl rfl) rfl ?_)
  (refine nx (aM (gN rfl) rfl rfl rfl rfl rfl) rfl ?_)
  (refine nx (a_callO (gN rfl) rfl rfl rfl rfl rfl (hja) (by repeat (first | exact trivial | refine ⟨rfl, ?_⟩)) (by first | rfl | kernel_rfl) (by first | rfl | kernel_rfl) (by first | rfl | kernel_rfl) (by first | rfl | kernel_rfl) (hnb_of (by first | rfl | kernel_rfl))) rfl ?_)
  (refine nx (a_not (gN rfl) rfl rfl rfl rfl rfl) rfl ?_)
  show AWp _ _ _ _ _ _ _
  cases hj2 : j.2 with
  | false =>
    rw [hT.no (f1 hj2)]
    refine aC rfl (fun hc => ?_) (fun hc => by cases hc)
    refine aS (aR ?_)
    (refine nx (aA (gN rfl) rfl rfl rfl rfl rfl) rfl ?_)
    (refine nx (aA (gN rfl) rfl rfl rfl rfl rfl) rfl ?_)
    show AWp _ _ _ _ _ _ _
    exact aT (And.intro (.inr rfl) rfl)
  | true =>
    obtain ⟨cn, od, H, r', e2, g1, g2, g3, ki, hcn, n1, n2⟩ := f2 hj2
    obtain ⟨e3, e4⟩ := e2 k (Nat.le_refl _)
    obtain ⟨E', hI⟩ := joinAllC_inv l hj (E := []) ⟨⟨id, id, Cls.nil, by show 0 + sumTo _ 0 ≤ _; simp [sumTo]⟩, (fun x hx => by cases hx), by show sumTo _ 0 ≤ _; simp [sumTo]⟩ rfl hl (by show sumTo _ 0 + _ ≤ _; simpa [sumTo] using hpl) hj2
    have hF := hI.fitU
    have hu0 : usB j.1.ns 0 := fun m => by rw [nS_all hj]; exact ⟨Int.le_refl _, Int.le_refl _⟩
    obtain ⟨hF1, hu1, hh1, hhl⟩ := countC_keep k 0 e3 hF (by simpa using hu0) (by omega) (fun h hm => by cases hm) (Nat.le_refl _)
    have hF2 := ordC_fit k 0 e4 hF1 (fun h hm => hh1 h (List.mem_filter.1 hm).1) (by decide) hu1
    have hnsl : od.1.ns.length ≤ 1000 := Nat.le_trans (len_pw _) hF2.big
    have hod : ∀ x ∈ od.2, x < od.1.ns.length := fun x hx => (ki.hd x hx).1
    have hol : od.2.length ≤ 1000 := Nat.le_trans (nodup_le _ ki.nd hod) hnsl
    have hor := uOrd_abs k j.1 cn od e3 e4 hF hu0 hol
    have hvr : vrOk od.1.vr := vr_ord k 0 e4 (vr_count k 0 e3 (vr_all hj ⟨List.nodup_nil, fun p hp => by cases hp⟩))
    have hvl := vr_len g1 hvr
    have hvb : ∀ p ∈ od.1.vr, p.1 ≤ 9223372036854775807 := fun p hp => by
      obtain ⟨v1, v2⟩ := g1.vrt p.1 p.2 (lookV_mem hvr.1 hp)
      have v3 := ((Tm.rng_iff _).1 ((trmOk_iff _).1 hF2.trm p.2 v1).1).1
      omega
    refine aC rfl (fun hc => by cases hc) (fun hc => aK ?_)
    show AWp _ _ _ _ _ _ _
    by_cases h : od.2.length = cn.2.length
    · have h9 : decide ((od.2.length : Int) = cn.2.length) = true := by rw [h]; simp
      rw [h9] at hor
      obtain ⟨k1, tm, e5, c1, c5, c2, hm⟩ := n2 h
      have hFq := (TI.all (t := (od.1, List.replicate od.1.ns.length tm0)) (N := od.1.ns.length) ⟨hF2, by simp, Nat.le_refl _⟩ (fun n hn => hod n (List.mem_reverse.1 hn)) (e5 k1 (Nat.le_refl _))).1.fit
      have hbi := uBind_abs k1 od.1 od.2 tm (e5 k1 (Nat.le_refl _)) hF2 c2 hod hol c1 hFq (by rw [c5]; exact hvr) (by rw [c5]; omega)
      refine aS (aR ?_)
      (refine nx (aM (gN rfl) rfl rfl rfl rfl rfl) rfl ?_)
      (refine nx (a_callO (gN rfl) rfl rfl rfl rfl rfl (hor) (by repeat (first | exact trivial | refine ⟨rfl, ?_⟩)) (by first | rfl | kernel_rfl) (by first | rfl | kernel_rfl) (by first | rfl | kernel_rfl) (by first | rfl | kernel_rfl) (hnb_of (by first | rfl | kernel_rfl))) rfl ?_)
      (refine nx (aM (gN rfl) rfl rfl rfl rfl rfl) rfl ?_)
      (refine nx (aX (gN rfl) rfl rfl rfl rfl rfl rfl) rfl ?_)
      (refine nx (aX (gN rfl) rfl rfl rfl rfl rfl rfl) rfl ?_)
      (refine nx (aA (gN rfl) rfl rfl rfl rfl rfl) rfl ?_)
      (refine nx (aA (gN rfl) rfl rfl rfl rfl rfl) rfl ?_)
      show AWp _ _ _ _ _ _ _
      refine aS (aS (aR ?_))
      (refine nx (aM (gN rfl) rfl rfl rfl rfl rfl) rfl ?_)
      (refine nx (a_not (gN rfl) rfl rfl rfl rfl rfl) rfl ?_)
      show AWp _ _ _ _ _ _ _
      refine aC rfl (fun hc => by cases hc) (fun hc => aK ?_)
      show AWp _ _ _ _ _ _ _
      refine aS (awp_regionE 2 rfl rfl rfl rfl rfl rfl hbi (by kernel_rfl) (fun σ => by kernel_rfl) (fun σ => by kernel_rfl) (fun σ => rfl) (fun σ => hnb_of (by kernel_rfl)) ?_)
      (refine nx (aM (gN rfl) rfl rfl rfl rfl rfl) rfl ?_)
      (refine nx (aM (gN rfl) rfl rfl rfl rfl rfl) rfl ?_)
      refine ⟨rfl, ⟨rfl, rfl, rfl, rfl, rfl, rfl, rfl, trivial⟩, fun σ hσ => ⟨by kernel_rfl, ?_⟩⟩
      obtain ⟨vr', hp, hσ1⟩ := hσ
      rw [c5] at hp
      obtain ⟨t1, t2, t3⟩ := told_bind hT hvr hvb hp hσ1 hm
      have hsl : σ.1.length ≤ 1000000 := by rw [hσ1, List.length_map, hp.length_eq]; omega
      (refine nx (a_call (gN rfl) rfl rfl rfl rfl rfl (normD_abs _ σ.1 hsl t2 t3)) rfl ?_)
      (refine nx (aA (gN rfl) rfl rfl rfl rfl rfl) rfl ?_)
      (refine nx (aA (gN rfl) rfl rfl rfl rfl rfl) rfl ?_)
      show AWp _ _ _ _ _ _ _
      rw [t1]
      exact aT (And.intro (.inr rfl) rfl)
    · have h9 : decide ((od.2.length : Int) = cn.2.length) = false := by
        rw [decide_eq_false_iff_not]
        omega
      rw [h9] at hor
      rw [hT.no (n1 h)]
      refine aS (aR ?_)
      (refine nx (aM (gN rfl) rfl rfl rfl rfl rfl) rfl ?_)
      (refine nx (a_callO (gN rfl) rfl rfl rfl rfl rfl (hor) (by repeat (first | exact trivial | refine ⟨rfl, ?_⟩)) (by first | rfl | kernel_rfl) (by first | rfl | kernel_rfl) (by first | rfl | kernel_rfl) (by first | rfl | kernel_rfl) (hnb_of (by first | rfl | kernel_rfl))) rfl ?_)
      (refine nx (aM (gN rfl) rfl rfl rfl rfl rfl) rfl ?_)
      (refine nx (aX (gN rfl) rfl rfl rfl rfl rfl rfl) rfl ?_)
      (refine nx (aX (gN rfl) rfl rfl rfl rfl rfl rfl) rfl ?_)
      (refine nx (aA (gN rfl) rfl rfl rfl rfl rfl) rfl ?_)
      (refine nx (aA (gN rfl) rfl rfl rfl rfl rfl) rfl ?_)
      show AWp _ _ _ _ _ _ _
      refine aS (aS (aR ?_))
      (refine nx (aM (gN rfl) rfl rfl rfl rfl rfl) rfl ?_)
      (refine nx (a_not (gN rfl) rfl rfl rfl rfl rfl) rfl ?_)
      show AWp _ _ _ _ _ _ _
      refine aC rfl (fun hc => ?_) (fun hc => by cases hc)
      refine aS (aR ?_)
      (refine nx (aA (gN rfl) rfl rfl rfl rfl rfl) rfl ?_)
      (refine nx (aA (gN rfl) rfl rfl rfl rfl rfl) rfl ?_)
      show AWp _ _ _ _ _ _ _
      exact aT (And.intro (.inr rfl) rfl)
-- 
set_option maxHeartbeats 2000000 in
theorem uUnify_abs (W : World) (a b : Tm) (ha : a.rng) (hao : a.ok) (hb : b.rng) (hbo : b.ok) (hs : a.size + b.size ≤ 1000) (r : List Bd × Bool) (hT : ToldU [(a, b)] r) : AFun Try.prog W 17 [a.cw, b.cw] (.tup [.lst (r.1.map Bd.cv), .b r.2]) := by
  have hl : ∀ p ∈ [(a, b)], (p.1.rng ∧ p.1.ok) ∧ (p.2.rng ∧ p.2.ok) := fun p hp => by
    rw [List.mem_singleton] at hp
    rw [hp]
    exact ⟨⟨ha, hao⟩, hb, hbo⟩
  have hpl : plcS [(a, b)] ≤ 1000 := by unfold plcS; simpa using hs
  have hpa := uPairs_abs W [(a, b)] hl hpl r hT
  refine afun_of (rs := [.lst (r.1.map Bd.cv), .b r.2]) Try.func17 Try.ntmps17 rfl rfl rfl rfl ?_
  intro w U hW
  refine aS (aR ?_)
  (refine nx (a_box (gN rfl) rfl rfl rfl rfl rfl) rfl ?_)
  (refine nx (a_box (gN rfl) rfl rfl rfl rfl rfl) rfl ?_)
  (refine nx (aA (gN rfl) rfl rfl rfl rfl rfl) rfl ?_)
  (refine nx (aA (gN rfl) rfl rfl rfl rfl rfl) rfl ?_)
  show AWp _ _ _ _ _ _ _
  refine aS (aR ?_)
  (refine nx (aL (gN rfl) rfl rfl rfl rfl rfl rfl rfl rfl rfl rfl rfl rfl) rfl ?_)
  (refine nx (aL (gN rfl) rfl rfl rfl rfl rfl rfl rfl rfl rfl rfl rfl rfl) rfl ?_)
  (refine nx (a_buildA [2, 2] (gN rfl) rfl rfl rfl rfl rfl rfl rfl rfl rfl rfl rfl rfl) rfl ?_)
  (refine nx (a_bslice (gN rfl) rfl rfl rfl rfl rfl rfl rfl rfl rfl rfl rfl rfl rfl) rfl ?_)
  (refine nx (a_call (gN rfl) rfl rfl rfl rfl rfl (uPairs_abs _ [(a, b)] hl hpl r hT)) rfl ?_)
  (refine nx (aX (gN rfl) rfl rfl rfl rfl rfl rfl) rfl ?_)
  (refine nx (aX (gN rfl) rfl rfl rfl rfl rfl rfl) rfl ?_)
  (refine nx (aA (gN rfl) rfl rfl rfl rfl rfl) rfl ?_)
  (refine nx (aA (gN rfl) rfl rfl rfl rfl rfl) rfl ?_)
  show AWp _ _ _ _ _ _ _
  exact aT (And.intro (.inr rfl) rfl)
end Go.Proofs.Ytiammidklcjelaa
namespace Go.Proofs.Ytiammidklcjelaa
set_option linter.unusedVariables false
set_option linter.unusedSimpArgs false
theorem two_three : ∀ E : Nat, 2 ^ E ≤ 3 ^ E
  | 0 => Nat.le_refl _
  | E + 1 => by
    have := two_three E
    rw [Nat.pow_succ, Nat.pow_succ]; omega
theorem k_two_three : ∀ k : Nat, k * 2 ^ k ≤ 3 ^ k
  | 0 => by decide
  | 1 => by decide
  | 2 => by decide
  | k + 3 => by
    have h := k_two_three (k + 2)
    have e1 : (k + 3) * 2 ^ (k + 3) = (2 * (k + 3)) * 2 ^ (k + 2) := by
      rw [Nat.pow_succ 2 (k + 2), Nat.mul_comm (2 ^ (k + 2)) 2, ← Nat.mul_assoc, Nat.mul_comm (k + 3) 2]
    have e2 : 3 ^ (k + 3) = 3 * 3 ^ (k + 2) := by rw [Nat.pow_succ 3 (k + 2), Nat.mul_comm]
    rw [e1, e2]
    have h2 : (2 * (k + 3)) * 2 ^ (k + 2) ≤ (3 * (k + 2)) * 2 ^ (k + 2) := Nat.mul_le_mul_right _ (by omega)
    rw [Nat.mul_assoc 3] at h2
    omega
def Big (E s : Nat) : Prop := 2 ^ E * (s + 1) ≤ 2 * 3 ^ E
theorem Big.succ {E s : Nat} (h : Big E s) : Big (E + 1) s := by
  unfold Big at *
  rw [Nat.pow_succ, Nat.pow_succ, Nat.mul_assoc, Nat.mul_left_comm]
  omega
theorem Big.up {E F s : Nat} (h : Big E s) (hf : E ≤ F) : Big F s := by
  induction hf with
  | refl => exact h
  | step _ ih => exact ih.succ
theorem Big.sum {E : Nat} : ∀ (l : List Nat), (∀ s ∈ l, Big E s) → 2 ^ E * (l.sum + l.length) ≤ 2 * l.length * 3 ^ E
  | [], _ => by simp
  | s :: l, h => by
    have h1 : 2 ^ E * (s + 1) ≤ 2 * 3 ^ E := h s (by simp)
    have h2 := Big.sum l fun x hx => h x (List.mem_cons_of_mem _ hx)
    rw [List.sum_cons, List.length_cons, show s + l.sum + (l.length + 1) = (s + 1) + (l.sum + l.length) by omega, Nat.mul_add, show 2 * (l.length + 1) * 3 ^ E = 2 * 3 ^ E + 2 * l.length * 3 ^ E by rw [Nat.mul_add, Nat.add_mul, Nat.add_comm]]
    omega
theorem Big.node {E : Nat} (l : List Nat) (h : ∀ s ∈ l, Big E s) : Big (E + l.length) (1 + l.sum) := by
  have h1 := Big.sum l h
  have h23 := two_three E
  have hk := k_two_three l.length
  unfold Big
  rw [Nat.pow_add, Nat.pow_add]
  obtain ⟨A, hA⟩ : ∃ A, A = 2 ^ E := ⟨_, rfl⟩
  obtain ⟨B, hB⟩ : ∃ B, B = 3 ^ E := ⟨_, rfl⟩
  rw [← hA, ← hB] at h1 h23 ⊢
  match l, h1, hk with
  | [], h1, hk => simp; omega
  | [s], h1, hk =>
    simp only [List.sum_cons, List.sum_nil, List.length_cons, List.length_nil, Nat.add_zero, Nat.zero_add, Nat.pow_one, Nat.mul_one] at h1 ⊢
    rw [Nat.mul_comm A 2, Nat.mul_assoc, show A * (1 + s + 1) = A * (s + 1) + A by rw [show 1 + s + 1 = (s + 1) + 1 by omega, Nat.mul_add, Nat.mul_one]]
    omega
  | s :: t :: l, h1, hk =>
    obtain ⟨m, hm⟩ : ∃ m, m = s :: t :: l := ⟨_, rfl⟩
    have hlen : 2 ≤ m.length := by rw [hm]; simp
    rw [← hm] at h1 hk ⊢
    obtain ⟨P, hP⟩ : ∃ P, P = 2 ^ m.length := ⟨_, rfl⟩
    obtain ⟨Q, hQ⟩ : ∃ Q, Q = 3 ^ m.length := ⟨_, rfl⟩
    rw [← hP, ← hQ] at hk
    rw [← hP, ← hQ]
    have h2 : A * (1 + m.sum + 1) ≤ A * (m.sum + m.length) := Nat.mul_le_mul_left _ (by omega)
    have h3 : A * (1 + m.sum + 1) ≤ 2 * m.length * B := Nat.le_trans h2 h1
    have h4 : P * (A * (1 + m.sum + 1)) ≤ P * (2 * m.length * B) := Nat.mul_le_mul_left _ h3
    have h5 : P * (2 * m.length * B) = 2 * (m.length * P * B) := by
      rw [Nat.mul_assoc 2, Nat.mul_left_comm P 2, ← Nat.mul_assoc P, Nat.mul_comm P m.length]
    have h6 : m.length * P * B ≤ Q * B := Nat.mul_le_mul_right _ hk
    rw [show A * P * (1 + m.sum + 1) = P * (A * (1 + m.sum + 1)) by rw [Nat.mul_comm A P, Nat.mul_assoc], Nat.mul_comm B Q]
    omega
def backS (k v : Int) : Tm := varT (if v < k then v else v - k)
theorem no_self (τ : Int → Tm) (x : Tm) {f : Int} (hf : ¬ f < 0) : repT τ x ≠ repT τ ⟨f, [x]⟩ := fun e => by
  have h1 : (repT τ ⟨f, [x]⟩).size = 1 + (repT τ x).size := by
    rw [repT_sym (t := ⟨f, [x]⟩) hf, Tm.size_sym (t := ⟨f, _⟩) hf]; simp
  rw [← e] at h1
  omega
theorem rep_ground {x : Tm} (hx : x.vs = []) (τ : Int → Tm) : repT τ x = x.strip := rep_idem fun u hu => by rw [hx] at hu; cases hu
theorem left_free {s : List Bd} {E : List (Tm × Tm)} (h : Mgu (imgB s) E) {t : Tm} {u : Int} (hu : u ∈ (repT (imgB s) t).vs) : findB (normF s) u = none := by
  have hu0 := vs_nonneg _ u hu
  rw [findN s hu0, h.rep_vs hu, if_pos]
  show (decide ((varT u).f < 0) && decide (-1 - (varT u).f = u)) = true
  rw [varT_f, decide_eq_true (by omega), decide_eq_true (by omega)]; rfl
def Shut (S : List Tm) : Prop := ∀ s ∈ S, ∀ p ∈ s.ps, p ∈ S
def Hits (S : List Tm) (σ : Int → Tm) (t : Tm) : Prop := ∃ s ∈ S, repT σ t = repT σ s
def Orig (S : List Tm) (σ : Int → Tm) : Prop := ∀ v, 0 ≤ v → ¬ (σ v).f < 0 → ∃ s ∈ S, ¬ s.f < 0 ∧ repT σ s = σ v
theorem Hits.sym {S : List Tm} {σ : Int → Tm} {t : Tm} (h : Hits S σ t) (ho : Orig S σ) (hb : ∀ v, 0 ≤ v → (σ v).strip = σ v) (hf : ¬ (repT σ t).f < 0) : ∃ s ∈ S, ¬ s.f < 0 ∧ repT σ t = repT σ s := by
  obtain ⟨s, hs, e⟩ := h
  by_cases hs0 : s.f < 0
  · have h0 : 0 ≤ -1 - s.f := by omega
    have e2 : repT σ s = σ (-1 - s.f) := by rw [repT_var hs0, hb _ h0]
    rw [e, e2] at hf
    obtain ⟨q, hq, hq0, e3⟩ := ho _ h0 hf
    exact ⟨q, hq, hq0, by rw [e, e2, e3]⟩
  · exact ⟨s, hs, hs0, e⟩
theorem sum_map_le {S : List Tm} {f g : Tm → Nat} (h : ∀ x ∈ S, f x ≤ g x) : (S.map f).sum ≤ (S.map g).sum := by
  induction S with
  | nil => exact Nat.le_refl _
  | cons a S ih =>
    rw [List.map_cons, List.map_cons, List.sum_cons, List.sum_cons]
    have h1 := h a (by simp)
    have h2 := ih fun x hx => h x (List.mem_cons_of_mem _ hx)
    omega
theorem sum_map_add {S : List Tm} {f g : Tm → Nat} {c : Nat} {s : Tm} (hs : s ∈ S) (hc : f s + c ≤ g s) (h : ∀ x ∈ S, f x ≤ g x) : (S.map f).sum + c ≤ (S.map g).sum := by
  induction S with
  | nil => cases hs
  | cons a S ih =>
    rw [List.map_cons, List.map_cons, List.sum_cons, List.sum_cons]
    have h1 := h a (by simp)
    rcases List.mem_cons.1 hs with rfl | hs
    · have := sum_map_le (S := S) fun x hx => h x (List.mem_cons_of_mem _ hx)
      omega
    · have := ih hs fun x hx => h x (List.mem_cons_of_mem _ hx)
      omega
def arN (S : List Tm) (σ : Int → Tm) (n : Nat) : Nat := (S.map fun s => if (repT σ s).size ≤ n then s.ps.length else 0).sum
theorem arN_mono {S : List Tm} {σ : Int → Tm} {n m : Nat} (h : n ≤ m) : arN S σ n ≤ arN S σ m := sum_map_le fun x _ => by
  split
  · rw [if_pos (by omega)]; exact Nat.le_refl _
  · exact Nat.zero_le _
theorem Big.one (E : Nat) : Big E 1 := by
  unfold Big
  have := two_three E
  omega
theorem img_big {S : List Tm} {σ : Int → Tm} (hc : Shut S) (ho : Orig S σ) (hb : ∀ v, 0 ≤ v → (σ v).strip = σ v) : ∀ (n : Nat), ∀ s ∈ S, ¬ s.f < 0 → (repT σ s).size ≤ n → Big (arN S σ n) (repT σ s).size := by
  intro n
  induction n with
  | zero => intro s _ _ h; have := Tm.size_pos (repT σ s); omega
  | succ n ih =>
    intro s hs hf hn
    by_cases hle : (repT σ s).size ≤ n
    · exact (ih s hs hf hle).up (arN_mono (by omega))
    have hsz : (repT σ s).size = n + 1 := by omega
    have hps : s.ps = s.l := Tm.ps_of_sym (by omega)
    have he : repT σ s = ⟨s.f, s.l.map (repT σ)⟩ := repT_sym hf
    have h1 : (repT σ s).size = 1 + ((s.l.map (repT σ)).map Tm.size).sum := by rw [he]; exact Tm.size_sym (t := ⟨s.f, s.l.map (repT σ)⟩) hf
    have hparts : ∀ x ∈ (s.l.map (repT σ)).map Tm.size, Big (arN S σ n) x := by
      intro x hx
      rw [List.map_map] at hx
      obtain ⟨p, hp, rfl⟩ := List.mem_map.1 hx
      show Big _ (repT σ p).size
      have hpS : p ∈ S := hc s hs p (by rw [hps]; exact hp)
      have hlt : (repT σ p).size < (repT σ s).size := Tm.size_part (by rw [he, Tm.ps_of_sym (by show 0 ≤ s.f; omega)]; exact List.mem_map.2 ⟨p, hp, rfl⟩)
      by_cases hv : (repT σ p).f < 0
      · rw [Tm.size_var hv]; exact Big.one _
      · obtain ⟨q, hq, hq0, e⟩ := Hits.sym ⟨p, hpS, rfl⟩ ho hb hv
        rw [e] at hlt ⊢
        exact ih q hq hq0 (by omega)
    have h2 := Big.node _ hparts
    rw [← h1] at h2
    refine h2.up ?_
    rw [List.length_map, List.length_map]
    refine sum_map_add hs ?_ fun x _ => ?_
    · rw [if_neg (by omega), if_pos (by omega), hps]; omega
    · split
      · rw [if_pos (by omega)]; exact Nat.le_refl _
      · exact Nat.zero_le _
def arA (S : List Tm) : Nat := (S.map fun s => s.ps.length).sum
theorem hits_big {S : List Tm} {σ : Int → Tm} (hc : Shut S) (ho : Orig S σ) (hb : ∀ v, 0 ≤ v → (σ v).strip = σ v) {t : Tm} (h : Hits S σ t) : Big (arA S) (repT σ t).size := by
  by_cases hv : (repT σ t).f < 0
  · rw [Tm.size_var hv]; exact Big.one _
  · obtain ⟨q, hq, hq0, e⟩ := h.sym ho hb hv
    rw [e]
    refine (img_big hc ho hb _ q hq hq0 (Nat.le_refl _)).up (sum_map_le fun x _ => ?_)
    split
    · exact Nat.le_refl _
    · exact Nat.zero_le _
theorem arA_app (S T : List Tm) : arA (S ++ T) = arA S + arA T := by unfold arA; rw [List.map_append, List.sum_append]
theorem arA_flat (t : Tm) : arA t.flat + 1 = t.size := by
  induction t using Tm.indp with
  | h t ih =>
    have : ∀ l : List Tm, (∀ s ∈ l, arA s.flat + 1 = s.size) → arA (l.flatMap Tm.flat) + l.length = (l.flatMap Tm.flat).length := by
      intro l
      induction l with
      | nil => intro _; rfl
      | cons a l ih2 =>
        intro h
        have h1 := h a (by simp)
        have h2 := ih2 fun s hs => h s (List.mem_cons_of_mem _ hs)
        unfold Tm.size at h1
        rw [List.flatMap_cons, arA_app, List.length_append, List.length_cons]
        omega
    have h3 := this t.ps ih
    rw [Tm.size_eq, Tm.flat_eq]
    show ((t :: t.ps.flatMap Tm.flat).map fun s : Tm => s.ps.length).sum + 1 = _
    rw [List.map_cons, List.sum_cons]
    have h4 : arA (t.ps.flatMap Tm.flat) = ((t.ps.flatMap Tm.flat).map fun s : Tm => s.ps.length).sum := rfl
    omega
theorem flat_shut (t : Tm) : Shut t.flat := by
  induction t using Tm.indp with
  | h t ih =>
    intro s hs p hp
    rw [Tm.flat_eq] at hs ⊢
    rcases List.mem_cons.1 hs with rfl | hs
    · refine List.mem_cons_of_mem _ (List.mem_flatMap.2 ⟨p, hp, ?_⟩)
      rw [Tm.flat_eq]; simp
    · obtain ⟨q, hq, hs⟩ := List.mem_flatMap.1 hs
      exact List.mem_cons_of_mem _ (List.mem_flatMap.2 ⟨q, hq, ih q hq s hs p hp⟩)
def subsP (l : List (Tm × Tm)) : List Tm := l.flatMap fun p => p.1.flat ++ p.2.flat
theorem subs_shut (l : List (Tm × Tm)) : Shut (subsP l) := by
  intro s hs p hp
  obtain ⟨q, hq, hs⟩ := List.mem_flatMap.1 hs
  refine List.mem_flatMap.2 ⟨q, hq, ?_⟩
  rcases List.mem_append.1 hs with hs | hs
  · exact List.mem_append_left _ (flat_shut _ s hs p hp)
  · exact List.mem_append_right _ (flat_shut _ s hs p hp)
theorem subs_has {l : List (Tm × Tm)} {p : Tm × Tm} (h : p ∈ l) : p.1 ∈ subsP l ∧ p.2 ∈ subsP l := by
  refine ⟨List.mem_flatMap.2 ⟨p, h, List.mem_append_left _ ?_⟩, List.mem_flatMap.2 ⟨p, h, List.mem_append_right _ ?_⟩⟩ <;> (rw [Tm.flat_eq]; simp)
theorem subs_ar : ∀ l : List (Tm × Tm), (∀ p ∈ l, p.1.size ≤ 16 ∧ p.2.size ≤ 16) → arA (subsP l) ≤ 30 * l.length
  | [], _ => Nat.le_refl _
  | p :: l, h => by
    have h1 := h p (by simp)
    have h2 := subs_ar l fun q hq => h q (List.mem_cons_of_mem _ hq)
    have e : subsP (p :: l) = (p.1.flat ++ p.2.flat) ++ subsP l := List.flatMap_cons
    have h3 := arA_flat p.1
    have h4 := arA_flat p.2
    rw [e, arA_app, arA_app, List.length_cons]
    omega
theorem big_60 {s E : Nat} (hE : E ≤ 60) (h : Big E s) : s ≤ 90000000000 := by
  have h := h.up hE
  unfold Big at h
  have e1 : (2 : Nat) ^ 60 = 1152921504606846976 := by decide
  have e2 : (3 : Nat) ^ 60 = 42391158275216203514294433201 := by decide
  rw [e1, e2] at h
  omega

structure MidU (V : List Int) (S : List Tm) (K : Nat) (s : List Bd) (E : List (Tm × Tm)) : Prop where
  mgu : Mgu (imgB s) E
  bare : bareB s
  inV : inV V s
  orig : Orig S (imgB s)
  len : s.length + frN V s ≤ K
  num : ∀ b ∈ s, b.v ∈ V
theorem rU_spec {V : List Int} (hV : ∀ v ∈ V, 0 ≤ v) {n : Nat} {s : List Bd} {a b : Tm} {E : List (Tm × Tm)} {r} (e : rU n s a b = some r) (hm : Mgu (imgB s) E) (hb : bareB s) (hi : inV V s) (ha : ∀ u ∈ a.vs, u ∈ V) (hbv : ∀ u ∈ b.vs, u ∈ V) : RSpec V E [(a, b)] s r := by
  obtain ⟨m, r', e', h⟩ := rU_ends hV _ _ s a b E rfl rfl hm hb hi ha hbv
  have h1 := rU_le (Nat.le_max_left n m) _ _ _ _ e
  have h2 := rU_le (Nat.le_max_right n m) _ _ _ _ e'
  rw [h1] at h2
  cases h2
  exact h
theorem bnd_len (s : List Bd) (x : Int) (t : Tm) : (bndS s x t).length = s.length + 1 := by unfold bndS; simp
theorem Orig.bnd {S : List Tm} {s : List Bd} (ho : Orig S (imgB s)) (hb : bareB s) {x : Int} {b : Tm} (hin : x ∉ (repT (imgB s) b).vs) (hh : Hits S (imgB s) b) : Orig S (imgB (bndS s x (repT (imgB s) b))) := by
  have hB : (repT (imgB s) b).strip = repT (imgB s) b := rep_bare _ _
  have hr : ∀ t, repT (imgB (bndS s x (repT (imgB s) b))) t = repT (oneS x (repT (imgB s) b)) (repT (imgB s) t) := fun t => by
    rw [rep_two]
    exact rep_congr fun v hv => img_bnd hB (vs_nonneg _ v hv)
  intro v hv hf
  rw [img_bnd hB hv] at hf ⊢
  by_cases h1 : (imgB s v).f < 0
  · obtain ⟨w, hw⟩ : ∃ w, w = -1 - (imgB s v).f := ⟨_, rfl⟩
    have e1 : repT (oneS x (repT (imgB s) b)) (imgB s v) = (oneS x (repT (imgB s) b) w).strip := by rw [repT_var h1, hw]
    rw [e1] at hf ⊢
    unfold oneS at hf ⊢
    by_cases hx : w = x
    · rw [if_pos hx, hB] at hf ⊢
      obtain ⟨q, hq, hq0, e⟩ := hh.sym ho (fun v hv => bare_img hb v) hf
      refine ⟨q, hq, hq0, ?_⟩
      rw [hr, ← e, one_off hin, hB]
    · rw [if_neg hx, varT_strip, varT_f] at hf
      omega
  · obtain ⟨q, hq, hq0, e⟩ := ho v hv h1
    exact ⟨q, hq, hq0, by rw [hr, e]⟩
structure Way (V : List Int) (S : List Tm) (s : List Bd) (a : Tm) : Prop where
  vs : ∀ u ∈ a.vs, u ∈ V
  hits : Hits S (imgB s) a
theorem bnd_num {V : List Int} {s : List Bd} {x : Int} {t : Tm} (h : ∀ b ∈ s, b.v ∈ V) (hx : x ∈ V) : ∀ b ∈ bndS s x t, b.v ∈ V := fun b hb => by
  rcases List.mem_append.1 hb with hb | hb
  · obtain ⟨c, hc, rfl⟩ := List.mem_map.1 hb; exact h c hc
  · rw [List.mem_singleton] at hb; rw [hb]; exact hx
theorem rUgo_var {V : List Int} (hV : ∀ v ∈ V, 0 ≤ v) {S : List Tm} {K n : Nat} {s : List Bd} {E : List (Tm × Tm)} (h : MidU V S K s E) {a b a1 b1 : Tm} (ha1 : a1 = repT (imgB s) a) (hb1 : b1 = repT (imgB s) b) (ha : Way V S s a) (hb : Way V S s b) (hf : a1.f < 0) {s' : List Bd} (hr : rUgo (rU n) s a1 b1 = some (some s')) : Orig S (imgB s') ∧ s'.length = s.length + 1 ∧ ∀ b ∈ s', b.v ∈ V := by
  unfold rUgo at hr
  rw [if_pos hf] at hr
  split at hr
  · cases hr
  · rename_i hin
    cases hr
    have hx : -1 - a1.f ∈ V := rep_inV h.inV ha.vs _ (by rw [← ha1, Tm.vs_var hf]; simp)
    rw [hb1] at hin ⊢
    exact ⟨h.orig.bnd h.bare hin hb.hits, bnd_len _ _ _, bnd_num h.num hx⟩
end Go.Proofs.Ytiammidklcjelaa
namespace Go.Proofs.Ytiammidklcjelaa
open Go.RowKit
set_option linter.unusedVariables false
set_option linter.unusedSimpArgs false
set_option maxRecDepth 100000
-- 
theorem to7_abs (W : World) (l : List Bd) (hl : l.length ≤ 1000000) (hok : ∀ b ∈ l, b.t.ok) : AFun Try.prog W 21 [.lst (l.map Bd.cv)] (.val (.lst ((l.map Bd.strip).map Bd.cv))) := by
  have hsz := Bd.size_all l
  refine afun_of (rs := [.lst ((l.map Bd.strip).map Bd.cv)]) Try.func21 Try.ntmps21 rfl rfl rfl rfl ?_
  intro w U hW
  refine aS (aR ?_)
  (refine nx (aA (gN rfl) rfl rfl rfl rfl rfl) rfl ?_)
  show AWp _ _ _ _ _ _ _
  refine aS (aR ?_)
  (refine nx (aA (gN rfl) rfl rfl rfl rfl rfl) rfl ?_)
  show AWp _ _ _ _ _ _ _
  refine aS (aS (aR ?_))
  (refine nx (aA (gN rfl) rfl rfl rfl rfl rfl) rfl ?_)
  show AWp _ _ _ _ _ _ _
  refine aB (awp_count l.length (fun k => [(0, .val (.lst (l.map Bd.cv))), (3, .own (.lst (((l.take k).map Bd.strip).map Bd.cv)) 200025), (200025, .tok 88 3), (4, .val (.i k))])
    ((wk_nil 3 200025 88 3 rfl rfl rfl rfl rfl rfl rfl).trans (wk_sub ⟨rfl, rfl, rfl, rfl, trivial⟩)) ?_)
  intro k hk
  refine aS (aS (aR ?_))
  (refine nx (aM (gN rfl) rfl rfl rfl rfl rfl) rfl ?_)
  (refine nx (aM (gN rfl) rfl rfl rfl rfl rfl) rfl ?_)
  (refine nx (a_len (gN rfl) rfl rfl rfl rfl rfl rfl rfl) rfl ?_)
  (refine nx (a_lss (gN rfl) rfl rfl rfl rfl rfl rfl) rfl ?_)
  show AWp _ _ _ _ _ _ _
  refine aC rfl (fun hlt => ?_) (fun hlt => ?_)
  · have hkl : k < l.length := by have h : decide ((k : Int) < ((l.map Bd.cv).length : Int)) = true := hlt; simp at h; omega
    obtain ⟨x, hx⟩ : ∃ x, l[k]? = some x := ⟨l[k], List.getElem?_eq_getElem hkl⟩
    have hx' := Bd.map_at hx
    have hz1 := Bd.size_all ((l.take k).map Bd.strip)
    have hbd : (((l.take k).map Bd.strip).map Bd.cv).length ≤ 1000000 := by simp; omega
    refine aK ?_
    show AWp _ _ _ _ _ _ _
    refine aS (aB (aD (by kernel_rfl) (by kernel_rfl) ?_))
    (refine nx (aM (gN rfl) rfl rfl rfl rfl rfl) rfl ?_)
    (refine nx (aM (gN rfl) rfl rfl rfl rfl rfl) rfl ?_)
    (refine nx (aM (gN rfl) rfl rfl rfl rfl rfl) rfl ?_)
    (refine nx (a_index (gN rfl) rfl rfl rfl rfl rfl rfl rfl rfl rfl (by assumption) rfl (by first | assumption | exact sZ rfl | exact Tm.size_all _ | exact Bd.size_all _ | exact ints_size _ | exact bys_size _ | exact Lt.size_all _)) rfl ?_)
    (refine nx (a_field_ad (gN rfl) rfl rfl rfl rfl rfl rfl rfl rfl rfl rfl rfl) rfl ?_)
    (refine nx (a_load_ad (gN rfl) rfl rfl rfl rfl rfl rfl rfl rfl rfl) rfl ?_)
    (refine nx (aM (gN rfl) rfl rfl rfl rfl rfl) rfl ?_)
    (refine nx (aM (gN rfl) rfl rfl rfl rfl rfl) rfl ?_)
    (refine nx (a_index (gN rfl) rfl rfl rfl rfl rfl rfl rfl rfl rfl (by assumption) rfl (by first | assumption | exact sZ rfl | exact Tm.size_all _ | exact Bd.size_all _ | exact ints_size _ | exact bys_size _ | exact Lt.size_all _)) rfl ?_)
    (refine nx (a_field_ad (gN rfl) rfl rfl rfl rfl rfl rfl rfl rfl rfl rfl rfl) rfl ?_)
    (refine nx (a_load_ad (gN rfl) rfl rfl rfl rfl rfl rfl rfl rfl rfl) rfl ?_)
    (refine nx (a_call (gN rfl) rfl rfl rfl rfl rfl (to_abs w x.t (hok x (List.mem_of_getElem? hx)))) rfl ?_)
    (refine nx (a_build (gN rfl) rfl rfl rfl rfl rfl rfl rfl rfl rfl rfl rfl) rfl ?_)
    (refine nx (a_bslice (gN rfl) rfl rfl rfl rfl rfl rfl rfl rfl rfl rfl rfl rfl rfl) rfl ?_)
    (refine nx (a_app (gN rfl) rfl rfl rfl rfl rfl rfl rfl rfl rfl rfl rfl rfl rfl rfl rfl (by first | assumption | exact sZ rfl | exact Tm.size_all _ | exact Bd.size_all _ | exact ints_size _ | exact bys_size _ | exact Lt.size_all _) (by first | assumption | exact sZ rfl | exact Tm.size_all _ | exact Bd.size_all _ | exact ints_size _ | exact bys_size _ | exact Lt.size_all _) (by first | omega | (simp only [List.length_map, List.length_append, List.length_cons, List.length_nil] <;> omega) | (simp <;> omega))) rfl ?_)
    (refine nx (aA (gN rfl) rfl rfl rfl rfl rfl) rfl ?_)
    refine ⟨by kernel_rfl, ?_⟩
    show AWp _ _ _ _ _ _ _
    refine aR ?_
    (refine nx (aM (gN rfl) rfl rfl rfl rfl rfl) rfl ?_)
    (refine nx (a_add (gN rfl) rfl rfl rfl rfl rfl rfl (by first | omega | (simp only [List.length_map, List.length_append, List.length_cons, List.length_nil] <;> omega) | (simp <;> omega))) rfl ?_)
    (refine nx (aA (gN rfl) rfl rfl rfl rfl rfl) rfl ?_)
    refine ⟨hkl, Wk.trans (wk_sub (s' := [(0, .val (.lst (l.map Bd.cv))), (3, .own (.lst (((l.take (k + 1)).map Bd.strip).map Bd.cv)) 300025), (300025, .tok 88 3), (4, .val (.i ((k + 1 : Nat) : Int)))]) ⟨rfl, ?_, rfl, rfl, trivial⟩) (wk_ren 300025 200025 rfl rfl rfl rfl)⟩
    rw [take_snoc hx, List.map_append, List.map_append]
    rfl
  · have hkl : k = l.length := by have h : decide ((k : Int) < ((l.map Bd.cv).length : Int)) = false := hlt; simp at h; omega
    subst hkl
    refine aE ?_
    show AWp _ _ _ _ _ _ _
    refine aS (aR ?_)
    (refine nx (aM (gN rfl) rfl rfl rfl rfl rfl) rfl ?_)
    (refine nx (aA (gN rfl) rfl rfl rfl rfl rfl) rfl ?_)
    show AWp _ _ _ _ _ _ _
    refine aT ⟨.inr rfl, ?_⟩
    show some [CV.lst _] = some [CV.lst _]
    rw [List.take_length]

def same7 : List Bd → List Bd → Bool
  | [], [] => true
  | a :: l, b :: m => decide (a.v = b.v) && (sameT a.t b.t && same7 l m)
  | _, _ => false
theorem same7_len : ∀ {l m : List Bd}, l.length ≠ m.length → same7 l m = false
  | [], [], h => absurd rfl h
  | [], b :: m, _ => rfl
  | a :: l, [], _ => rfl
  | a :: l, b :: m, h => by rw [same7, same7_len (fun e => h (by simp [e]))]; simp
theorem same7_no : ∀ {l m : List Bd} {k : Nat} {a b : Bd}, l[k]? = some a → m[k]? = some b → (a.v ≠ b.v ∨ sameT a.t b.t = false) → same7 l m = false
  | [], _, _, _, _, h, _, _ => by simp at h
  | _ :: _, [], _, _, _, _, h, _ => by simp at h
  | x :: l, y :: m, 0, a, b, h1, h2, h => by
    simp at h1 h2; subst h1; subst h2
    rw [same7]
    rcases h with h | h <;> simp [h]
  | x :: l, y :: m, k + 1, a, b, h1, h2, h => by
    rw [same7, same7_no (k := k) (by simpa using h1) (by simpa using h2) h]; simp
theorem same7_yes : ∀ {l m : List Bd}, l.length = m.length → (∀ (k : Nat) (a b : Bd), l[k]? = some a → m[k]? = some b → a.v = b.v ∧ sameT a.t b.t = true) → same7 l m = true
  | [], [], _, _ => rfl
  | [], _ :: _, h, _ => by simp at h
  | _ :: _, [], h, _ => by simp at h
  | x :: l, y :: m, h, hk => by
    obtain ⟨h1, h2⟩ := hk 0 x y rfl rfl
    rw [same7, same7_yes (by simpa using h) fun k a b g1 g2 => hk (k + 1) a b (by simpa using g1) (by simpa using g2), h2]
    simp [h1]
-- 
theorem ref7Same_abs (W : World) (l m : List Bd) (hl : l.length ≤ 1000000) (hm : m.length ≤ 1000000) (hlo : ∀ b ∈ l, b.t.ok) (hmo : ∀ b ∈ m, b.t.ok) : AFun Try.prog W 20 [.lst (l.map Bd.cv), .lst (m.map Bd.cv)] (.val (.b (same7 l m))) := by
  have hsz := Bd.size_all l
  have hsz2 := Bd.size_all m
  refine afun_of (rs := [.b (same7 l m)]) Try.func20 Try.ntmps20 rfl rfl rfl rfl ?_
  intro w U hW
  refine aS (aR ?_)
  (refine nx (aA (gN rfl) rfl rfl rfl rfl rfl) rfl ?_)
  show AWp _ _ _ _ _ _ _
  refine aS (aS (aR ?_))
  (refine nx (aM (gN rfl) rfl rfl rfl rfl rfl) rfl ?_)
  (refine nx (a_len (gN rfl) rfl rfl rfl rfl rfl rfl rfl) rfl ?_)
  (refine nx (aM (gN rfl) rfl rfl rfl rfl rfl) rfl ?_)
  (refine nx (a_len (gN rfl) rfl rfl rfl rfl rfl rfl rfl) rfl ?_)
  (refine nx (a_neq (gN rfl) rfl rfl rfl rfl rfl rfl) rfl ?_)
  show AWp _ _ _ _ _ _ _
  refine aC rfl (fun hc => ?_) (fun hc => aK ?_)
  · have hne : l.length ≠ m.length := by have h : decide (((l.map Bd.cv).length : Int) ≠ ((m.map Bd.cv).length : Int)) = true := hc; simp at h; omega
    refine aS (aR ?_)
    (refine nx (aA (gN rfl) rfl rfl rfl rfl rfl) rfl ?_)
    show AWp _ _ _ _ _ _ _
    refine aT ⟨.inr rfl, ?_⟩
    rw [same7_len hne]; rfl
  have hlm : l.length = m.length := by have h : decide (((l.map Bd.cv).length : Int) ≠ ((m.map Bd.cv).length : Int)) = false := hc; simp at h; omega
  show AWp _ _ _ _ _ _ _
  refine aS (aS (aR ?_))
  (refine nx (aA (gN rfl) rfl rfl rfl rfl rfl) rfl ?_)
  show AWp _ _ _ _ _ _ _
  refine aB (awp_countI l.length (fun k => ∀ (i : Nat) (a b : Bd), i < k → l[i]? = some a → m[i]? = some b → a.v = b.v ∧ sameT a.t b.t = true) (fun k => [(0, .val (.lst (l.map Bd.cv))), (1, .val (.lst (m.map Bd.cv))), (5, .val (.i k))]) (wk_sub ⟨rfl, rfl, rfl, trivial⟩) (fun i a b hi => by omega) ?_)
  intro k hk hI
  refine aS (aS (aR ?_))
  (refine nx (aM (gN rfl) rfl rfl rfl rfl rfl) rfl ?_)
  (refine nx (aM (gN rfl) rfl rfl rfl rfl rfl) rfl ?_)
  (refine nx (a_len (gN rfl) rfl rfl rfl rfl rfl rfl rfl) rfl ?_)
  (refine nx (a_lss (gN rfl) rfl rfl rfl rfl rfl rfl) rfl ?_)
  show AWp _ _ _ _ _ _ _
  refine aC rfl (fun hlt => ?_) (fun hlt => ?_)
  · have hkl : k < l.length := by have h : decide ((k : Int) < ((l.map Bd.cv).length : Int)) = true := hlt; simp at h; omega
    obtain ⟨x, hx⟩ : ∃ x, l[k]? = some x := ⟨l[k], List.getElem?_eq_getElem hkl⟩
    obtain ⟨y, hy⟩ : ∃ y, m[k]? = some y := ⟨m[k]'(by omega), List.getElem?_eq_getElem (by omega)⟩
    have hx' := Bd.map_at hx
    have hy' := Bd.map_at hy
    have hs := refSame_abs w x.t y.t (hlo x (List.mem_of_getElem? hx)) (hmo y (List.mem_of_getElem? hy))
    refine aK ?_
    show AWp _ _ _ _ _ _ _
    by_cases hv : x.v = y.v
    · have g : decide (x.v ≠ y.v) = false := by simpa using hv
      refine aS (aB (aS (aD (by kernel_rfl) (by kernel_rfl) ?_)))
      (refine nx (aM (gN rfl) rfl rfl rfl rfl rfl) rfl ?_)
      (refine nx (aM (gN rfl) rfl rfl rfl rfl rfl) rfl ?_)
      (refine nx (a_index (gN rfl) rfl rfl rfl rfl rfl rfl rfl rfl rfl (by assumption) rfl (by first | assumption | exact sZ rfl | exact Tm.size_all _ | exact Bd.size_all _ | exact ints_size _ | exact bys_size _ | exact Lt.size_all _)) rfl ?_)
      (refine nx (a_field_ad (gN rfl) rfl rfl rfl rfl rfl rfl rfl rfl rfl rfl rfl) rfl ?_)
      (refine nx (a_load_ad (gN rfl) rfl rfl rfl rfl rfl rfl rfl rfl rfl) rfl ?_)
      (refine nx (aM (gN rfl) rfl rfl rfl rfl rfl) rfl ?_)
      (refine nx (aM (gN rfl) rfl rfl rfl rfl rfl) rfl ?_)
      (refine nx (a_index (gN rfl) rfl rfl rfl rfl rfl rfl rfl rfl rfl (by assumption) rfl (by first | assumption | exact sZ rfl | exact Tm.size_all _ | exact Bd.size_all _ | exact ints_size _ | exact bys_size _ | exact Lt.size_all _)) rfl ?_)
      (refine nx (a_field_ad (gN rfl) rfl rfl rfl rfl rfl rfl rfl rfl rfl rfl rfl) rfl ?_)
      (refine nx (a_load_ad (gN rfl) rfl rfl rfl rfl rfl rfl rfl rfl rfl) rfl ?_)
      (refine nx (a_neq (gN rfl) rfl rfl rfl rfl rfl rfl) rfl ?_)
      (refine nx (aM (gN rfl) rfl rfl rfl rfl rfl) rfl ?_)
      (refine nx (aM (gd_on rfl rfl rfl rfl (by first | rfl | assumption | (simp; done))) rfl rfl rfl rfl rfl) rfl ?_)
      (refine nx (aM (gd_on rfl rfl rfl rfl (by first | rfl | assumption | (simp; done))) rfl rfl rfl rfl rfl) rfl ?_)
      (refine nx (a_index (gd_on rfl rfl rfl rfl (by first | rfl | assumption | (simp; done))) rfl rfl rfl rfl rfl rfl rfl rfl rfl (by assumption) rfl (by first | assumption | exact sZ rfl | exact Tm.size_all _ | exact Bd.size_all _ | exact ints_size _ | exact bys_size _ | exact Lt.size_all _)) rfl ?_)
      (refine nx (a_field_ad (gd_on rfl rfl rfl rfl (by first | rfl | assumption | (simp; done))) rfl rfl rfl rfl rfl rfl rfl rfl rfl rfl rfl) rfl ?_)
      (refine nx (a_load_ad (gd_on rfl rfl rfl rfl (by first | rfl | assumption | (simp; done))) rfl rfl rfl rfl rfl rfl rfl rfl rfl) rfl ?_)
      (refine nx (aM (gd_on rfl rfl rfl rfl (by first | rfl | assumption | (simp; done))) rfl rfl rfl rfl rfl) rfl ?_)
      (refine nx (aM (gd_on rfl rfl rfl rfl (by first | rfl | assumption | (simp; done))) rfl rfl rfl rfl rfl) rfl ?_)
      (refine nx (a_index (gd_on rfl rfl rfl rfl (by first | rfl | assumption | (simp; done))) rfl rfl rfl rfl rfl rfl rfl rfl rfl (by assumption) rfl (by first | assumption | exact sZ rfl | exact Tm.size_all _ | exact Bd.size_all _ | exact ints_size _ | exact bys_size _ | exact Lt.size_all _)) rfl ?_)
      (refine nx (a_field_ad (gd_on rfl rfl rfl rfl (by first | rfl | assumption | (simp; done))) rfl rfl rfl rfl rfl rfl rfl rfl rfl rfl rfl) rfl ?_)
      (refine nx (a_load_ad (gd_on rfl rfl rfl rfl (by first | rfl | assumption | (simp; done))) rfl rfl rfl rfl rfl rfl rfl rfl rfl) rfl ?_)
      (refine nx (a_call (gd_on rfl rfl rfl rfl (by first | rfl | assumption | (simp; done))) rfl rfl rfl rfl rfl (hs)) rfl ?_)
      (refine nx (a_not (gd_on rfl rfl rfl rfl (by first | rfl | assumption | (simp; done))) rfl rfl rfl rfl rfl) rfl ?_)
      (refine ⟨_, _, _, aPf (gN rfl) rfl rfl rfl rfl rfl ?hb rfl, rfl, ?_⟩; case hb => (first | rfl | assumption | (simp; done)))
      refine ⟨by kernel_rfl, ?_⟩
      show AWp _ _ _ _ _ _ _
      refine aC rfl (fun hc => ?_) (fun hc => aK ?_)
      · have hf : sameT x.t y.t = false := by simpa using hc
        refine aS (aR ?_)
        (refine nx (aA (gN rfl) rfl rfl rfl rfl rfl) rfl ?_)
        show AWp _ _ _ _ _ _ _
        refine aT ⟨.inr rfl, ?_⟩
        rw [same7_no hx hy (.inr hf)]; rfl
      · have hf : sameT x.t y.t = true := by simpa using hc
        show AWp _ _ _ _ _ _ _
        refine aR ?_
        (refine nx (aM (gN rfl) rfl rfl rfl rfl rfl) rfl ?_)
        (refine nx (a_add (gN rfl) rfl rfl rfl rfl rfl rfl (by first | omega | (simp only [List.length_map, List.length_append, List.length_cons, List.length_nil] <;> omega) | (simp <;> omega))) rfl ?_)
        (refine nx (aA (gN rfl) rfl rfl rfl rfl rfl) rfl ?_)
        refine ⟨hkl, fun i a b hi h1 h2 => ?_, wk_sub ⟨rfl, rfl, rfl, trivial⟩⟩
        rcases Nat.lt_or_ge i k with h | h
        · exact hI i a b h h1 h2
        · have : i = k := by omega
          subst this
          rw [hx] at h1; rw [hy] at h2
          cases h1; cases h2
          exact ⟨hv, hf⟩
    · have g : decide (x.v ≠ y.v) = true := by simpa using hv
      refine aS (aB (aS (aD (by kernel_rfl) (by kernel_rfl) ?_)))
      (refine nx (aM (gN rfl) rfl rfl rfl rfl rfl) rfl ?_)
      (refine nx (aM (gN rfl) rfl rfl rfl rfl rfl) rfl ?_)
      (refine nx (a_index (gN rfl) rfl rfl rfl rfl rfl rfl rfl rfl rfl (by assumption) rfl (by first | assumption | exact sZ rfl | exact Tm.size_all _ | exact Bd.size_all _ | exact ints_size _ | exact bys_size _ | exact Lt.size_all _)) rfl ?_)
      (refine nx (a_field_ad (gN rfl) rfl rfl rfl rfl rfl rfl rfl rfl rfl rfl rfl) rfl ?_)
      (refine nx (a_load_ad (gN rfl) rfl rfl rfl rfl rfl rfl rfl rfl rfl) rfl ?_)
      (refine nx (aM (gN rfl) rfl rfl rfl rfl rfl) rfl ?_)
      (refine nx (aM (gN rfl) rfl rfl rfl rfl rfl) rfl ?_)
      (refine nx (a_index (gN rfl) rfl rfl rfl rfl rfl rfl rfl rfl rfl (by assumption) rfl (by first | assumption | exact sZ rfl | exact Tm.size_all _ | exact Bd.size_all _ | exact ints_size _ | exact bys_size _ | exact Lt.size_all _)) rfl ?_)
      (refine nx (a_field_ad (gN rfl) rfl rfl rfl rfl rfl rfl rfl rfl rfl rfl rfl) rfl ?_)
      (refine nx (a_load_ad (gN rfl) rfl rfl rfl rfl rfl rfl rfl rfl rfl) rfl ?_)
      (refine nx (a_neq (gN rfl) rfl rfl rfl rfl rfl rfl) rfl ?_)
      (refine nx (aM (gN rfl) rfl rfl rfl rfl rfl) rfl ?_)
      (refine ⟨_, _, _, a_off (go_off rfl rfl rfl rfl (by first | rfl | assumption | (simp; done) | (simp [*]; done))) rfl rfl rfl, rfl, ?_⟩)
      (refine ⟨_, _, _, a_off (go_off rfl rfl rfl rfl (by first | rfl | assumption | (simp; done) | (simp [*]; done))) rfl rfl rfl, rfl, ?_⟩)
      (refine ⟨_, _, _, a_off (go_off rfl rfl rfl rfl (by first | rfl | assumption | (simp; done) | (simp [*]; done))) rfl rfl rfl, rfl, ?_⟩)
      (refine ⟨_, _, _, a_off (go_off rfl rfl rfl rfl (by first | rfl | assumption | (simp; done) | (simp [*]; done))) rfl rfl rfl, rfl, ?_⟩)
      (refine ⟨_, _, _, a_off (go_off rfl rfl rfl rfl (by first | rfl | assumption | (simp; done) | (simp [*]; done))) rfl rfl rfl, rfl, ?_⟩)
      (refine ⟨_, _, _, a_off (go_off rfl rfl rfl rfl (by first | rfl | assumption | (simp; done) | (simp [*]; done))) rfl rfl rfl, rfl, ?_⟩)
      (refine ⟨_, _, _, a_off (go_off rfl rfl rfl rfl (by first | rfl | assumption | (simp; done) | (simp [*]; done))) rfl rfl rfl, rfl, ?_⟩)
      (refine ⟨_, _, _, a_off (go_off rfl rfl rfl rfl (by first | rfl | assumption | (simp; done) | (simp [*]; done))) rfl rfl rfl, rfl, ?_⟩)
      (refine ⟨_, _, _, a_off (go_off rfl rfl rfl rfl (by first | rfl | assumption | (simp; done) | (simp [*]; done))) rfl rfl rfl, rfl, ?_⟩)
      (refine ⟨_, _, _, a_off (go_off rfl rfl rfl rfl (by first | rfl | assumption | (simp; done) | (simp [*]; done))) rfl rfl rfl, rfl, ?_⟩)
      (refine ⟨_, _, _, a_off (go_off rfl rfl rfl rfl (by first | rfl | assumption | (simp; done) | (simp [*]; done))) rfl rfl rfl, rfl, ?_⟩)
      (refine ⟨_, _, _, a_off (go_off rfl rfl rfl rfl (by first | rfl | assumption | (simp; done) | (simp [*]; done))) rfl rfl rfl, rfl, ?_⟩)
      (refine ⟨_, _, _, aPt (gN rfl) rfl rfl rfl rfl rfl ?hb rfl, rfl, ?_⟩; case hb => (first | rfl | assumption | (simp; done)))
      refine ⟨by kernel_rfl, ?_⟩
      show AWp _ _ _ _ _ _ _
      refine aC rfl (fun hc => ?_) (fun hc => by cases hc)
      refine aS (aR ?_)
      (refine nx (aA (gN rfl) rfl rfl rfl rfl rfl) rfl ?_)
      show AWp _ _ _ _ _ _ _
      refine aT ⟨.inr rfl, ?_⟩
      rw [same7_no hx hy (.inl hv)]; rfl
  · have hkl : k = l.length := by have h : decide ((k : Int) < ((l.map Bd.cv).length : Int)) = false := hlt; simp at h; omega
    refine aE ?_
    show AWp _ _ _ _ _ _ _
    refine aS (aR ?_)
    (refine nx (aA (gN rfl) rfl rfl rfl rfl rfl) rfl ?_)
    show AWp _ _ _ _ _ _ _
    refine aT ⟨.inr rfl, ?_⟩
    rw [same7_yes hlm fun i a b h1 h2 => hI i a b (by
      rcases Nat.lt_or_ge i l.length with h | h
      · omega
      · rw [List.getElem?_eq_none h] at h1; cases h1) h1 h2]
    rfl
def lessN (v : Int) : List Bd → Nat
  | [] => 0
  | b :: l => if b.v < v then lessN v l + 1 else 0
def insV (b : Bd) (l : List Bd) : List Bd := l.take (lessN b.v l) ++ [b] ++ l.drop (lessN b.v l)
def knownB (L : List Bd) (i : Nat) (v : Int) : Bool := (L.take i).any fun c => decide (c.v = v)
def rnmF (L : List Bd) : Nat → List Bd
  | 0 => []
  | i + 1 => match L[i]? with
    | none => rnmF L i
    | some b => if knownB L i b.v || idleB b then rnmF L i else insV b (rnmF L i)
theorem lessN_le (v : Int) : ∀ l : List Bd, lessN v l ≤ l.length
  | [] => Nat.le_refl _
  | b :: l => by rw [lessN]; split <;> simp; exact lessN_le v l
theorem lessN_at {v : Int} : ∀ {l : List Bd} {k : Nat}, (∀ i c, i < k → l[i]? = some c → c.v < v) → (∀ c, l[k]? = some c → ¬ c.v < v) → k ≤ l.length → lessN v l = k
  | [], k, _, _, h => by simp at h; subst h; rfl
  | b :: l, 0, _, h, _ => by rw [lessN, if_neg (h b rfl)]
  | b :: l, k + 1, h1, h2, h3 => by
    rw [lessN, if_pos (h1 0 b (by omega) rfl), lessN_at (k := k) (fun i c hi hc => h1 (i + 1) c (by omega) (by simpa using hc)) (fun c hc => h2 c (by simpa using hc)) (by simpa using h3)]
theorem rnmF_len (L : List Bd) : ∀ i, (rnmF L i).length ≤ i
  | 0 => Nat.le_refl _
  | i + 1 => by
    have ih := rnmF_len L i
    rw [rnmF]
    split
    · omega
    · split
      · omega
      · rename_i b _ _
        have := lessN_le b.v (rnmF L i)
        unfold insV
        simp
        omega

-- 
set_option maxHeartbeats 4000000 in
theorem ref7Norm_abs (W : World) (L : List Bd) (hl : L.length ≤ 1000) (hr : ∀ b ∈ L, b.t.rng) : AFun Try.prog W 39 [.lst (L.map Bd.cv)] (.val (.lst ((rnmF L L.length).map Bd.cv))) := by
  have hsz := Bd.size_all L
  refine afun_of (rs := [.lst ((rnmF L L.length).map Bd.cv)]) Try.func39 Try.ntmps39 rfl rfl rfl rfl ?_
  intro w U hW
  refine aS (aR ?_)
  (refine nx (aA (gN rfl) rfl rfl rfl rfl rfl) rfl ?_)
  show AWp _ _ _ _ _ _ _
  refine aS (aR ?_)
  (refine nx (aA (gN rfl) rfl rfl rfl rfl rfl) rfl ?_)
  show AWp _ _ _ _ _ _ _
  refine aS (aS (aR ?_))
  (refine nx (aA (gN rfl) rfl rfl rfl rfl rfl) rfl ?_)
  show AWp _ _ _ _ _ _ _
  let st : Nat → AS := fun i => [(0, .val (.lst (L.map Bd.cv))), (3, .val (.lst ((rnmF L i).map Bd.cv))), (4, .val (.i i))]
  refine aB (awp_count L.length st ((wk_sub (s' := [(0, .val (.lst (L.map Bd.cv))), (3, ⟨0, .lst [], 1, 0, []⟩), (4, .val (.i (0 : Nat)))]) ⟨rfl, rfl, rfl, trivial⟩).trans (wk_plain 3 rfl)) ?_)
  intro i hi
  obtain ⟨O, hO⟩ : ∃ O, O = rnmF L i := ⟨_, rfl⟩
  have hOl : O.length ≤ i := by rw [hO]; exact rnmF_len L i
  have hOs := Bd.size_all O
  refine AWp.wk (wk_sub (s' := [(0, .val (.lst (L.map Bd.cv))), (3, .val (.lst (O.map Bd.cv))), (4, .val (.i i))]) ⟨rfl, by rw [hO]; rfl, rfl, trivial⟩) ?_
  refine aS (aS (aR ?_))
  (refine nx (aM (gN rfl) rfl rfl rfl rfl rfl) rfl ?_)
  (refine nx (aM (gN rfl) rfl rfl rfl rfl rfl) rfl ?_)
  (refine nx (a_len (gN rfl) rfl rfl rfl rfl rfl rfl rfl) rfl ?_)
  (refine nx (a_lss (gN rfl) rfl rfl rfl rfl rfl rfl) rfl ?_)
  show AWp _ _ _ _ _ _ _
  refine aC rfl (fun hlt => ?_) (fun hlt => ?_)
  · have hil : i < L.length := by have h : decide ((i : Int) < ((L.map Bd.cv).length : Int)) = true := hlt; simp at h; omega
    obtain ⟨x, hx⟩ : ∃ x, L[i]? = some x := ⟨L[i], List.getElem?_eq_getElem hil⟩
    have hx' := Bd.map_at hx
    have hxf : -9223372036854775808 ≤ x.t.f := ((Tm.rng_iff _).1 (hr x (List.mem_of_getElem? hx))).1.1
    refine aK ?_
    show AWp _ _ _ _ _ _ _
    refine aS (aB (aS (aR ?_)))
    (refine nx (aA (gN rfl) rfl rfl rfl rfl rfl) rfl ?_)
    show AWp _ _ _ _ _ _ _
    refine aS (aS (aR ?_))
    (refine nx (aA (gN rfl) rfl rfl rfl rfl rfl) rfl ?_)
    show AWp _ _ _ _ _ _ _
    let st2 : Nat → AS := fun k => [(0, .val (.lst (L.map Bd.cv))), (3, .val (.lst (O.map Bd.cv))), (4, .val (.i i)), (5, .val (.b (knownB L k x.v))), (6, .val (.i k))]
    refine aB (awp_count i st2 (wk_sub ⟨rfl, rfl, rfl, rfl, rfl, trivial⟩) ?_)
    intro k hk
    refine aS (aS (aR ?_))
    (refine nx (aM (gN rfl) rfl rfl rfl rfl rfl) rfl ?_)
    (refine nx (aM (gN rfl) rfl rfl rfl rfl rfl) rfl ?_)
    (refine nx (a_lss (gN rfl) rfl rfl rfl rfl rfl rfl) rfl ?_)
    show AWp _ _ _ _ _ _ _
    refine aC rfl (fun hlt2 => ?_) (fun hlt2 => ?_)
    · have hki : k < i := by simpa using hlt2
      obtain ⟨y, hy⟩ : ∃ y, L[k]? = some y := ⟨L[k]'(by omega), List.getElem?_eq_getElem (by omega)⟩
      have hy' := Bd.map_at hy
      have hkn : knownB L (k + 1) x.v = (knownB L k x.v || decide (y.v = x.v)) := by
        unfold knownB
        rw [take_snoc hy, List.any_append]
        simp
      refine aK ?_
      show AWp _ _ _ _ _ _ _
      cases hkk : knownB L k x.v with
      | true =>
        refine AWp.wk (wk_sub (s' := [(0, .val (.lst (L.map Bd.cv))), (3, .val (.lst (O.map Bd.cv))), (4, .val (.i i)), (5, .val (.b true)), (6, .val (.i k))]) ⟨rfl, rfl, rfl, by rw [← hkk]; rfl, rfl, trivial⟩) ?_
        refine aS (aB (aD (by kernel_rfl) (by kernel_rfl) ?_))
        (refine nx (aM (gN rfl) rfl rfl rfl rfl rfl) rfl ?_)
        (refine nx (aM (gN rfl) rfl rfl rfl rfl rfl) rfl ?_)
        (refine ⟨_, _, _, a_off (go_off rfl rfl rfl rfl (by first | rfl | assumption | (simp; done) | (simp [*]; done))) rfl rfl rfl, rfl, ?_⟩)
        (refine ⟨_, _, _, a_off (go_off rfl rfl rfl rfl (by first | rfl | assumption | (simp; done) | (simp [*]; done))) rfl rfl rfl, rfl, ?_⟩)
        (refine ⟨_, _, _, a_off (go_off rfl rfl rfl rfl (by first | rfl | assumption | (simp; done) | (simp [*]; done))) rfl rfl rfl, rfl, ?_⟩)
        (refine ⟨_, _, _, a_off (go_off rfl rfl rfl rfl (by first | rfl | assumption | (simp; done) | (simp [*]; done))) rfl rfl rfl, rfl, ?_⟩)
        (refine ⟨_, _, _, a_off (go_off rfl rfl rfl rfl (by first | rfl | assumption | (simp; done) | (simp [*]; done))) rfl rfl rfl, rfl, ?_⟩)
        (refine ⟨_, _, _, a_off (go_off rfl rfl rfl rfl (by first | rfl | assumption | (simp; done) | (simp [*]; done))) rfl rfl rfl, rfl, ?_⟩)
        (refine ⟨_, _, _, a_off (go_off rfl rfl rfl rfl (by first | rfl | assumption | (simp; done) | (simp [*]; done))) rfl rfl rfl, rfl, ?_⟩)
        (refine ⟨_, _, _, a_off (go_off rfl rfl rfl rfl (by first | rfl | assumption | (simp; done) | (simp [*]; done))) rfl rfl rfl, rfl, ?_⟩)
        (refine ⟨_, _, _, a_off (go_off rfl rfl rfl rfl (by first | rfl | assumption | (simp; done) | (simp [*]; done))) rfl rfl rfl, rfl, ?_⟩)
        (refine ⟨_, _, _, a_off (go_off rfl rfl rfl rfl (by first | rfl | assumption | (simp; done) | (simp [*]; done))) rfl rfl rfl, rfl, ?_⟩)
        (refine ⟨_, _, _, a_off (go_off rfl rfl rfl rfl (by first | rfl | assumption | (simp; done) | (simp [*]; done))) rfl rfl rfl, rfl, ?_⟩)
        (refine ⟨_, _, _, aPt (gN rfl) rfl rfl rfl rfl rfl ?hb rfl, rfl, ?_⟩; case hb => (first | rfl | assumption | (simp; done)))
        (refine nx (aA (gN rfl) rfl rfl rfl rfl rfl) rfl ?_)
        refine ⟨by kernel_rfl, ?_⟩
        show AWp _ _ _ _ _ _ _
        refine aR ?_
        (refine nx (aM (gN rfl) rfl rfl rfl rfl rfl) rfl ?_)
        (refine nx (a_add (gN rfl) rfl rfl rfl rfl rfl rfl (by first | omega | (simp only [List.length_map, List.length_append, List.length_cons, List.length_nil] <;> omega) | (simp <;> omega))) rfl ?_)
        (refine nx (aA (gN rfl) rfl rfl rfl rfl rfl) rfl ?_)
        exact ⟨hki, wk_sub ⟨rfl, rfl, rfl, by rw [hkn, hkk]; rfl, rfl, trivial⟩⟩
      | false =>
        refine AWp.wk (wk_sub (s' := [(0, .val (.lst (L.map Bd.cv))), (3, .val (.lst (O.map Bd.cv))), (4, .val (.i i)), (5, .val (.b false)), (6, .val (.i k))]) ⟨rfl, rfl, rfl, by rw [← hkk]; rfl, rfl, trivial⟩) ?_
        refine aS (aB (aD (by kernel_rfl) (by kernel_rfl) ?_))
        (refine nx (aM (gN rfl) rfl rfl rfl rfl rfl) rfl ?_)
        (refine nx (aM (gN rfl) rfl rfl rfl rfl rfl) rfl ?_)
        (refine nx (aM (gd_on rfl rfl rfl rfl (by first | rfl | assumption | (simp; done))) rfl rfl rfl rfl rfl) rfl ?_)
        (refine nx (aM (gd_on rfl rfl rfl rfl (by first | rfl | assumption | (simp; done))) rfl rfl rfl rfl rfl) rfl ?_)
        (refine nx (a_index (gd_on rfl rfl rfl rfl (by first | rfl | assumption | (simp; done))) rfl rfl rfl rfl rfl rfl rfl rfl rfl (by assumption) rfl (by first | assumption | exact sZ rfl | exact Tm.size_all _ | exact Bd.size_all _ | exact ints_size _ | exact bys_size _ | exact Lt.size_all _)) rfl ?_)
        (refine nx (a_field_ad (gd_on rfl rfl rfl rfl (by first | rfl | assumption | (simp; done))) rfl rfl rfl rfl rfl rfl rfl rfl rfl rfl rfl) rfl ?_)
        (refine nx (a_load_ad (gd_on rfl rfl rfl rfl (by first | rfl | assumption | (simp; done))) rfl rfl rfl rfl rfl rfl rfl rfl rfl) rfl ?_)
        (refine nx (aM (gd_on rfl rfl rfl rfl (by first | rfl | assumption | (simp; done))) rfl rfl rfl rfl rfl) rfl ?_)
        (refine nx (aM (gd_on rfl rfl rfl rfl (by first | rfl | assumption | (simp; done))) rfl rfl rfl rfl rfl) rfl ?_)
        (refine nx (a_index (gd_on rfl rfl rfl rfl (by first | rfl | assumption | (simp; done))) rfl rfl rfl rfl rfl rfl rfl rfl rfl (by assumption) rfl (by first | assumption | exact sZ rfl | exact Tm.size_all _ | exact Bd.size_all _ | exact ints_size _ | exact bys_size _ | exact Lt.size_all _)) rfl ?_)
        (refine nx (a_field_ad (gd_on rfl rfl rfl rfl (by first | rfl | assumption | (simp; done))) rfl rfl rfl rfl rfl rfl rfl rfl rfl rfl rfl) rfl ?_)
        (refine nx (a_load_ad (gd_on rfl rfl rfl rfl (by first | rfl | assumption | (simp; done))) rfl rfl rfl rfl rfl rfl rfl rfl rfl) rfl ?_)
        (refine nx (a_eql (gd_on rfl rfl rfl rfl (by first | rfl | assumption | (simp; done))) rfl rfl rfl rfl rfl rfl) rfl ?_)
        (refine ⟨_, _, _, aPf (gN rfl) rfl rfl rfl rfl rfl ?hb rfl, rfl, ?_⟩; case hb => (first | rfl | assumption | (simp; done)))
        (refine nx (aA (gN rfl) rfl rfl rfl rfl rfl) rfl ?_)
        refine ⟨by kernel_rfl, ?_⟩
        show AWp _ _ _ _ _ _ _
        refine aR ?_
        (refine nx (aM (gN rfl) rfl rfl rfl rfl rfl) rfl ?_)
        (refine nx (a_add (gN rfl) rfl rfl rfl rfl rfl rfl (by first | omega | (simp only [List.length_map, List.length_append, List.length_cons, List.length_nil] <;> omega) | (simp <;> omega))) rfl ?_)
        (refine nx (aA (gN rfl) rfl rfl rfl rfl rfl) rfl ?_)
        exact ⟨hki, wk_sub ⟨rfl, rfl, rfl, by rw [hkn, hkk]; rfl, rfl, trivial⟩⟩
    have hki : k = i := by have : ¬ k < i := by simpa using hlt2
                           omega
    subst hki
    refine aE ?_
    show AWp _ _ _ _ _ _ _
    have hrn : rnmF L (k + 1) = if knownB L k x.v || idleB x then O else insV x O := by rw [rnmF, hx, hO]
    have hstay : (knownB L k x.v || idleB x) = true → rnmF L (k + 1) = O := fun h => by rw [hrn, if_pos h]
    let sb : Bool → AS := fun q => [(0, .val (.lst (L.map Bd.cv))), (3, .val (.lst (O.map Bd.cv))), (4, .val (.i k)), (5, .val (.b q))]
    let sc : AS := [(0, .val (.lst (L.map Bd.cv))), (3, .val (.lst (O.map Bd.cv))), (4, .val (.i k))]
    cases hkk : knownB L k x.v with
    | true =>
      refine AWp.wk (wk_sub (s' := sb true) ⟨rfl, rfl, rfl, by rw [← hkk]; rfl, trivial⟩) ?_
      refine aS (aS (aD (by kernel_rfl) (by kernel_rfl) ?_))
      (refine nx (aM (gN rfl) rfl rfl rfl rfl rfl) rfl ?_)
      (refine nx (aM (gN rfl) rfl rfl rfl rfl rfl) rfl ?_)
      (refine ⟨_, _, _, a_offt (go_off rfl rfl rfl rfl (by first | rfl | assumption | (simp; done) | (simp [*]; done))) rfl rfl rfl, rfl, ?_⟩)
      (refine ⟨_, _, _, a_offt (go_off rfl rfl rfl rfl (by first | rfl | assumption | (simp; done) | (simp [*]; done))) rfl rfl rfl, rfl, ?_⟩)
      (refine ⟨_, _, _, a_offt (go_off rfl rfl rfl rfl (by first | rfl | assumption | (simp; done) | (simp [*]; done))) rfl rfl rfl, rfl, ?_⟩)
      (refine ⟨_, _, _, a_offt (go_off rfl rfl rfl rfl (by first | rfl | assumption | (simp; done) | (simp [*]; done))) rfl rfl rfl, rfl, ?_⟩)
      (refine ⟨_, _, _, a_offt (go_off rfl rfl rfl rfl (by first | rfl | assumption | (simp; done) | (simp [*]; done))) rfl rfl rfl, rfl, ?_⟩)
      (refine ⟨_, _, _, a_offt (go_off rfl rfl rfl rfl (by first | rfl | assumption | (simp; done) | (simp [*]; done))) rfl rfl rfl, rfl, ?_⟩)
      (refine ⟨_, _, _, a_offt (go_off rfl rfl rfl rfl (by first | rfl | assumption | (simp; done) | (simp [*]; done))) rfl rfl rfl, rfl, ?_⟩)
      (refine ⟨_, _, _, a_offt (go_off rfl rfl rfl rfl (by first | rfl | assumption | (simp; done) | (simp [*]; done))) rfl rfl rfl, rfl, ?_⟩)
      (refine ⟨_, _, _, a_offt (go_off_t rfl rfl rfl rfl) rfl rfl rfl, rfl, ?_⟩)
      (refine ⟨_, _, _, a_offt (go_off_t rfl rfl rfl rfl) rfl rfl rfl, rfl, ?_⟩)
      (refine ⟨_, _, _, a_offt (go_off_t rfl rfl rfl rfl) rfl rfl rfl, rfl, ?_⟩)
      (refine ⟨_, _, _, a_offt (go_off_t rfl rfl rfl rfl) rfl rfl rfl, rfl, ?_⟩)
      (refine ⟨_, _, _, a_offt (go_off_t rfl rfl rfl rfl) rfl rfl rfl, rfl, ?_⟩)
      (refine ⟨_, _, _, a_offt (go_off_t rfl rfl rfl rfl) rfl rfl rfl, rfl, ?_⟩)
      (refine ⟨_, _, _, a_offt (go_off_t rfl rfl rfl rfl) rfl rfl rfl, rfl, ?_⟩)
      (refine ⟨_, _, _, a_offt (go_off_t rfl rfl rfl rfl) rfl rfl rfl, rfl, ?_⟩)
      (refine ⟨_, _, _, a_offt (go_off_t rfl rfl rfl rfl) rfl rfl rfl, rfl, ?_⟩)
      (refine ⟨_, _, _, a_offt (go_off_t rfl rfl rfl rfl) rfl rfl rfl, rfl, ?_⟩)
      (refine ⟨_, _, _, a_offt (go_off_t rfl rfl rfl rfl) rfl rfl rfl, rfl, ?_⟩)
      (refine ⟨_, _, _, a_offt (go_off_t rfl rfl rfl rfl) rfl rfl rfl, rfl, ?_⟩)
      (refine ⟨_, _, _, a_offt (go_off_t rfl rfl rfl rfl) rfl rfl rfl, rfl, ?_⟩)
      (refine ⟨_, _, _, a_offt (go_off rfl rfl rfl rfl (by first | rfl | assumption | (simp; done) | (simp [*]; done))) rfl rfl rfl, rfl, ?_⟩)
      (refine ⟨_, _, _, aPt (gN rfl) rfl rfl rfl rfl rfl ?hb rfl, rfl, ?_⟩; case hb => (first | rfl | assumption | (simp; done)))
      refine ⟨by kernel_rfl, ?_⟩
      show AWp _ _ _ _ _ _ _
      refine aC rfl (fun _ => ?_) (fun h => by cases h)
      refine aE ?_
      show AWp _ _ _ _ _ _ _
      refine aR ?_
      (refine nx (aM (gN rfl) rfl rfl rfl rfl rfl) rfl ?_)
      (refine nx (a_add (gN rfl) rfl rfl rfl rfl rfl rfl (by first | omega | (simp only [List.length_map, List.length_append, List.length_cons, List.length_nil] <;> omega) | (simp <;> omega))) rfl ?_)
      (refine nx (aA (gN rfl) rfl rfl rfl rfl rfl) rfl ?_)
      exact ⟨hil, wk_sub ⟨rfl, by rw [hstay (by rw [hkk]; rfl)]; rfl, rfl, trivial⟩⟩
    | false =>
    refine AWp.wk (wk_sub (s' := sb false) ⟨rfl, rfl, rfl, by rw [← hkk]; rfl, trivial⟩) ?_
    cases hid : idleB x with
    | true =>
      have hid2 := hid
      unfold idleB at hid2
      rw [Bool.and_eq_true] at hid2
      obtain ⟨g, g2⟩ := hid2
      refine aS (aS (aD (by kernel_rfl) (by kernel_rfl) ?_))
      have hf : x.t.f < 0 := by simpa using g
      (refine nx (aM (gN rfl) rfl rfl rfl rfl rfl) rfl ?_)
      (refine nx (aM (gN rfl) rfl rfl rfl rfl rfl) rfl ?_)
      (refine nx (aM (gd_on rfl rfl rfl rfl (by first | rfl | assumption | (simp; done))) rfl rfl rfl rfl rfl) rfl ?_)
      (refine nx (aM (gd_on rfl rfl rfl rfl (by first | rfl | assumption | (simp; done))) rfl rfl rfl rfl rfl) rfl ?_)
      (refine nx (a_index (gd_on rfl rfl rfl rfl (by first | rfl | assumption | (simp; done))) rfl rfl rfl rfl rfl rfl rfl rfl rfl (by assumption) rfl (by first | assumption | exact sZ rfl | exact Tm.size_all _ | exact Bd.size_all _ | exact ints_size _ | exact bys_size _ | exact Lt.size_all _)) rfl ?_)
      (refine nx (a_field_ad (gd_on rfl rfl rfl rfl (by first | rfl | assumption | (simp; done))) rfl rfl rfl rfl rfl rfl rfl rfl rfl rfl rfl) rfl ?_)
      (refine nx (a_field_ad (gd_on rfl rfl rfl rfl (by first | rfl | assumption | (simp; done))) rfl rfl rfl rfl rfl rfl rfl rfl rfl rfl rfl) rfl ?_)
      (refine nx (a_load_ad (gd_on rfl rfl rfl rfl (by first | rfl | assumption | (simp; done))) rfl rfl rfl rfl rfl rfl rfl rfl rfl) rfl ?_)
      (refine nx (a_lss (gd_on rfl rfl rfl rfl (by first | rfl | assumption | (simp; done))) rfl rfl rfl rfl rfl rfl) rfl ?_)
      (refine nx (aM (gd_on rfl rfl rfl rfl (by first | rfl | assumption | (simp; done))) rfl rfl rfl rfl rfl) rfl ?_)
      (refine nx (aM (gd_on rfl rfl rfl rfl (by first | rfl | assumption | (simp; done))) rfl rfl rfl rfl rfl) rfl ?_)
      (refine nx (aM (gd_on rfl rfl rfl rfl (by first | rfl | assumption | (simp; done))) rfl rfl rfl rfl rfl) rfl ?_)
      (refine nx (a_index (gd_on rfl rfl rfl rfl (by first | rfl | assumption | (simp; done))) rfl rfl rfl rfl rfl rfl rfl rfl rfl (by assumption) rfl (by first | assumption | exact sZ rfl | exact Tm.size_all _ | exact Bd.size_all _ | exact ints_size _ | exact bys_size _ | exact Lt.size_all _)) rfl ?_)
      (refine nx (a_field_ad (gd_on rfl rfl rfl rfl (by first | rfl | assumption | (simp; done))) rfl rfl rfl rfl rfl rfl rfl rfl rfl rfl rfl) rfl ?_)
      (refine nx (a_field_ad (gd_on rfl rfl rfl rfl (by first | rfl | assumption | (simp; done))) rfl rfl rfl rfl rfl rfl rfl rfl rfl rfl rfl) rfl ?_)
      (refine nx (a_load_ad (gd_on rfl rfl rfl rfl (by first | rfl | assumption | (simp; done))) rfl rfl rfl rfl rfl rfl rfl rfl rfl) rfl ?_)
      (refine nx (a_sub (gd_on rfl rfl rfl rfl (by first | rfl | assumption | (simp; done))) rfl rfl rfl rfl rfl rfl (by first | omega | (simp only [List.length_map, List.length_append, List.length_cons, List.length_nil] <;> omega) | (simp <;> omega))) rfl ?_)
      (refine nx (aM (gd_on rfl rfl rfl rfl (by first | rfl | assumption | (simp; done))) rfl rfl rfl rfl rfl) rfl ?_)
      (refine nx (aM (gd_on rfl rfl rfl rfl (by first | rfl | assumption | (simp; done))) rfl rfl rfl rfl rfl) rfl ?_)
      (refine nx (a_index (gd_on rfl rfl rfl rfl (by first | rfl | assumption | (simp; done))) rfl rfl rfl rfl rfl rfl rfl rfl rfl (by assumption) rfl (by first | assumption | exact sZ rfl | exact Tm.size_all _ | exact Bd.size_all _ | exact ints_size _ | exact bys_size _ | exact Lt.size_all _)) rfl ?_)
      (refine nx (a_field_ad (gd_on rfl rfl rfl rfl (by first | rfl | assumption | (simp; done))) rfl rfl rfl rfl rfl rfl rfl rfl rfl rfl rfl) rfl ?_)
      (refine nx (a_load_ad (gd_on rfl rfl rfl rfl (by first | rfl | assumption | (simp; done))) rfl rfl rfl rfl rfl rfl rfl rfl rfl) rfl ?_)
      (refine nx (a_eql (gd_on rfl rfl rfl rfl (by first | rfl | assumption | (simp; done))) rfl rfl rfl rfl rfl rfl) rfl ?_)
      (refine ⟨_, _, _, aPt (gd_on rfl rfl rfl rfl (by first | rfl | assumption | (simp; done))) rfl rfl rfl rfl rfl ?hb rfl, rfl, ?_⟩; case hb => (first | rfl | assumption | (simp; done)))
      (refine ⟨_, _, _, aPf (gN rfl) rfl rfl rfl rfl rfl ?hb rfl, rfl, ?_⟩; case hb => (first | rfl | assumption | (simp; done)))
      refine ⟨by kernel_rfl, ?_⟩
      show AWp _ _ _ _ _ _ _
      refine aC rfl (fun hc => ?_) (fun hc => ?_)
      · refine aE ?_
        show AWp _ _ _ _ _ _ _
        refine aR ?_
        (refine nx (aM (gN rfl) rfl rfl rfl rfl rfl) rfl ?_)
        (refine nx (a_add (gN rfl) rfl rfl rfl rfl rfl rfl (by first | omega | (simp only [List.length_map, List.length_append, List.length_cons, List.length_nil] <;> omega) | (simp <;> omega))) rfl ?_)
        (refine nx (aA (gN rfl) rfl rfl rfl rfl rfl) rfl ?_)
        exact ⟨hil, wk_sub ⟨rfl, by rw [hstay (by rw [hid]; simp)]; rfl, rfl, trivial⟩⟩
      · exact absurd (g2.symm.trans hc) (by decide)
    | false =>
    have hins : rnmF L (k + 1) = insV x O := by rw [hrn, hkk, hid]; rfl
    refine awp_mid sc ?_ ?_
    · by_cases hf : x.t.f < 0
      · have g : decide (x.t.f < 0) = true := by simpa using hf
        refine aS (aD (by kernel_rfl) (by kernel_rfl) ?_)
        (refine nx (aM (gN rfl) rfl rfl rfl rfl rfl) rfl ?_)
        (refine nx (aM (gN rfl) rfl rfl rfl rfl rfl) rfl ?_)
        (refine nx (aM (gd_on rfl rfl rfl rfl (by first | rfl | assumption | (simp; done))) rfl rfl rfl rfl rfl) rfl ?_)
        (refine nx (aM (gd_on rfl rfl rfl rfl (by first | rfl | assumption | (simp; done))) rfl rfl rfl rfl rfl) rfl ?_)
        (refine nx (a_index (gd_on rfl rfl rfl rfl (by first | rfl | assumption | (simp; done))) rfl rfl rfl rfl rfl rfl rfl rfl rfl (by assumption) rfl (by first | assumption | exact sZ rfl | exact Tm.size_all _ | exact Bd.size_all _ | exact ints_size _ | exact bys_size _ | exact Lt.size_all _)) rfl ?_)
        (refine nx (a_field_ad (gd_on rfl rfl rfl rfl (by first | rfl | assumption | (simp; done))) rfl rfl rfl rfl rfl rfl rfl rfl rfl rfl rfl) rfl ?_)
        (refine nx (a_field_ad (gd_on rfl rfl rfl rfl (by first | rfl | assumption | (simp; done))) rfl rfl rfl rfl rfl rfl rfl rfl rfl rfl rfl) rfl ?_)
        (refine nx (a_load_ad (gd_on rfl rfl rfl rfl (by first | rfl | assumption | (simp; done))) rfl rfl rfl rfl rfl rfl rfl rfl rfl) rfl ?_)
        (refine nx (a_lss (gd_on rfl rfl rfl rfl (by first | rfl | assumption | (simp; done))) rfl rfl rfl rfl rfl rfl) rfl ?_)
        (refine nx (aM (gd_on rfl rfl rfl rfl (by first | rfl | assumption | (simp; done))) rfl rfl rfl rfl rfl) rfl ?_)
        (refine nx (aM (gd_on rfl rfl rfl rfl (by first | rfl | assumption | (simp; done))) rfl rfl rfl rfl rfl) rfl ?_)
        (refine nx (aM (gd_on rfl rfl rfl rfl (by first | rfl | assumption | (simp; done))) rfl rfl rfl rfl rfl) rfl ?_)
        (refine nx (a_index (gd_on rfl rfl rfl rfl (by first | rfl | assumption | (simp; done))) rfl rfl rfl rfl rfl rfl rfl rfl rfl (by assumption) rfl (by first | assumption | exact sZ rfl | exact Tm.size_all _ | exact Bd.size_all _ | exact ints_size _ | exact bys_size _ | exact Lt.size_all _)) rfl ?_)
        (refine nx (a_field_ad (gd_on rfl rfl rfl rfl (by first | rfl | assumption | (simp; done))) rfl rfl rfl rfl rfl rfl rfl rfl rfl rfl rfl) rfl ?_)
        (refine nx (a_field_ad (gd_on rfl rfl rfl rfl (by first | rfl | assumption | (simp; done))) rfl rfl rfl rfl rfl rfl rfl rfl rfl rfl rfl) rfl ?_)
        (refine nx (a_load_ad (gd_on rfl rfl rfl rfl (by first | rfl | assumption | (simp; done))) rfl rfl rfl rfl rfl rfl rfl rfl rfl) rfl ?_)
        (refine nx (a_sub (gd_on rfl rfl rfl rfl (by first | rfl | assumption | (simp; done))) rfl rfl rfl rfl rfl rfl (by first | omega | (simp only [List.length_map, List.length_append, List.length_cons, List.length_nil] <;> omega) | (simp <;> omega))) rfl ?_)
        (refine nx (aM (gd_on rfl rfl rfl rfl (by first | rfl | assumption | (simp; done))) rfl rfl rfl rfl rfl) rfl ?_)
        (refine nx (aM (gd_on rfl rfl rfl rfl (by first | rfl | assumption | (simp; done))) rfl rfl rfl rfl rfl) rfl ?_)
        (refine nx (a_index (gd_on rfl rfl rfl rfl (by first | rfl | assumption | (simp; done))) rfl rfl rfl rfl rfl rfl rfl rfl rfl (by assumption) rfl (by first | assumption | exact sZ rfl | exact Tm.size_all _ | exact Bd.size_all _ | exact ints_size _ | exact bys_size _ | exact Lt.size_all _)) rfl ?_)
        (refine nx (a_field_ad (gd_on rfl rfl rfl rfl (by first | rfl | assumption | (simp; done))) rfl rfl rfl rfl rfl rfl rfl rfl rfl rfl rfl) rfl ?_)
        (refine nx (a_load_ad (gd_on rfl rfl rfl rfl (by first | rfl | assumption | (simp; done))) rfl rfl rfl rfl rfl rfl rfl rfl rfl) rfl ?_)
        (refine nx (a_eql (gd_on rfl rfl rfl rfl (by first | rfl | assumption | (simp; done))) rfl rfl rfl rfl rfl rfl) rfl ?_)
        (refine ⟨_, _, _, aPt (gd_on rfl rfl rfl rfl (by first | rfl | assumption | (simp; done))) rfl rfl rfl rfl rfl ?hb rfl, rfl, ?_⟩; case hb => (first | rfl | assumption | (simp; done)))
        (refine ⟨_, _, _, aPf (gN rfl) rfl rfl rfl rfl rfl ?hb rfl, rfl, ?_⟩; case hb => (first | rfl | assumption | (simp; done)))
        refine ⟨by kernel_rfl, ?_⟩
        show AWp _ _ _ _ _ _ _
        refine aC rfl (fun hc => ?_) (fun hc => aK ?_)
        · exfalso
          unfold idleB at hid
          rw [g] at hid
          exact absurd (hid.symm.trans hc) (by decide)
        · exact wk_sub ⟨rfl, rfl, rfl, trivial⟩
      · have g : decide (x.t.f < 0) = false := by simpa using hf
        refine aS (aD (by kernel_rfl) (by kernel_rfl) ?_)
        (refine nx (aM (gN rfl) rfl rfl rfl rfl rfl) rfl ?_)
        (refine nx (aM (gN rfl) rfl rfl rfl rfl rfl) rfl ?_)
        (refine nx (aM (gd_on rfl rfl rfl rfl (by first | rfl | assumption | (simp; done))) rfl rfl rfl rfl rfl) rfl ?_)
        (refine nx (aM (gd_on rfl rfl rfl rfl (by first | rfl | assumption | (simp; done))) rfl rfl rfl rfl rfl) rfl ?_)
        (refine nx (a_index (gd_on rfl rfl rfl rfl (by first | rfl | assumption | (simp; done))) rfl rfl rfl rfl rfl rfl rfl rfl rfl (by assumption) rfl (by first | assumption | exact sZ rfl | exact Tm.size_all _ | exact Bd.size_all _ | exact ints_size _ | exact bys_size _ | exact Lt.size_all _)) rfl ?_)
        (refine nx (a_field_ad (gd_on rfl rfl rfl rfl (by first | rfl | assumption | (simp; done))) rfl rfl rfl rfl rfl rfl rfl rfl rfl rfl rfl) rfl ?_)
        (refine nx (a_field_ad (gd_on rfl rfl rfl rfl (by first | rfl | assumption | (simp; done))) rfl rfl rfl rfl rfl rfl rfl rfl rfl rfl rfl) rfl ?_)
        (refine nx (a_load_ad (gd_on rfl rfl rfl rfl (by first | rfl | assumption | (simp; done))) rfl rfl rfl rfl rfl rfl rfl rfl rfl) rfl ?_)
        (refine nx (a_lss (gd_on rfl rfl rfl rfl (by first | rfl | assumption | (simp; done))) rfl rfl rfl rfl rfl rfl) rfl ?_)
        (refine nx (aM (gd_on rfl rfl rfl rfl (by first | rfl | assumption | (simp; done))) rfl rfl rfl rfl rfl) rfl ?_)
        (refine ⟨_, _, _, a_off (go_off rfl rfl rfl rfl (by first | rfl | assumption | (simp; done) | (simp [*]; done))) rfl rfl rfl, rfl, ?_⟩)
        (refine ⟨_, _, _, a_off (go_off rfl rfl rfl rfl (by first | rfl | assumption | (simp; done) | (simp [*]; done))) rfl rfl rfl, rfl, ?_⟩)
        (refine ⟨_, _, _, a_off (go_off rfl rfl rfl rfl (by first | rfl | assumption | (simp; done) | (simp [*]; done))) rfl rfl rfl, rfl, ?_⟩)
        (refine ⟨_, _, _, a_off (go_off rfl rfl rfl rfl (by first | rfl | assumption | (simp; done) | (simp [*]; done))) rfl rfl rfl, rfl, ?_⟩)
        (refine ⟨_, _, _, a_off (go_off rfl rfl rfl rfl (by first | rfl | assumption | (simp; done) | (simp [*]; done))) rfl rfl rfl, rfl, ?_⟩)
        (refine ⟨_, _, _, a_off (go_off rfl rfl rfl rfl (by first | rfl | assumption | (simp; done) | (simp [*]; done))) rfl rfl rfl, rfl, ?_⟩)
        (refine ⟨_, _, _, a_off (go_off rfl rfl rfl rfl (by first | rfl | assumption | (simp; done) | (simp [*]; done))) rfl rfl rfl, rfl, ?_⟩)
        (refine ⟨_, _, _, a_off (go_off rfl rfl rfl rfl (by first | rfl | assumption | (simp; done) | (simp [*]; done))) rfl rfl rfl, rfl, ?_⟩)
        (refine ⟨_, _, _, a_off (go_off rfl rfl rfl rfl (by first | rfl | assumption | (simp; done) | (simp [*]; done))) rfl rfl rfl, rfl, ?_⟩)
        (refine ⟨_, _, _, a_off (go_off rfl rfl rfl rfl (by first | rfl | assumption | (simp; done) | (simp [*]; done))) rfl rfl rfl, rfl, ?_⟩)
        (refine ⟨_, _, _, a_off (go_off rfl rfl rfl rfl (by first | rfl | assumption | (simp; done) | (simp [*]; done))) rfl rfl rfl, rfl, ?_⟩)
        (refine ⟨_, _, _, a_off (go_off rfl rfl rfl rfl (by first | rfl | assumption | (simp; done) | (simp [*]; done))) rfl rfl rfl, rfl, ?_⟩)
        (refine ⟨_, _, _, a_off (go_off rfl rfl rfl rfl (by first | rfl | assumption | (simp; done) | (simp [*]; done))) rfl rfl rfl, rfl, ?_⟩)
        (refine ⟨_, _, _, aPf (gd_on rfl rfl rfl rfl (by first | rfl | assumption | (simp; done))) rfl rfl rfl rfl rfl ?hb rfl, rfl, ?_⟩; case hb => (first | rfl | assumption | (simp; done)))
        (refine ⟨_, _, _, aPf (gN rfl) rfl rfl rfl rfl rfl ?hb rfl, rfl, ?_⟩; case hb => (first | rfl | assumption | (simp; done)))
        refine ⟨by kernel_rfl, ?_⟩
        show AWp _ _ _ _ _ _ _
        refine aC rfl (fun hc => by cases hc) (fun hc => aK ?_)
        exact wk_sub ⟨rfl, rfl, rfl, trivial⟩
    · refine aS (aR ?_)
      (refine nx (aA (gN rfl) rfl rfl rfl rfl rfl) rfl ?_)
      show AWp _ _ _ _ _ _ _
      refine awp_mid [(0, .val (.lst (L.map Bd.cv))), (3, .val (.lst (O.map Bd.cv))), (4, .val (.i k)), (7, .val (.i (lessN x.v O)))] (aB (awp_countI O.length (fun j => ∀ i c, i < j → O[i]? = some c → c.v < x.v) (fun j => [(0, .val (.lst (L.map Bd.cv))), (3, .val (.lst (O.map Bd.cv))), (4, .val (.i k)), (7, .val (.i j))]) (wk_sub ⟨rfl, rfl, rfl, rfl, trivial⟩) (fun i c hi => by omega) ?_)) ?_
      · intro j hj hI
        by_cases hjl : j < O.length
        · obtain ⟨z, hz⟩ : ∃ z, O[j]? = some z := ⟨O[j], List.getElem?_eq_getElem hjl⟩
          have hz' := Bd.map_at hz
          have g : decide ((j : Int) < ((O.map Bd.cv).length : Int)) = true := by simp; omega
          refine aS (aS (aD (by kernel_rfl) (by kernel_rfl) ?_))
          (refine nx (aM (gN rfl) rfl rfl rfl rfl rfl) rfl ?_)
          (refine nx (aM (gN rfl) rfl rfl rfl rfl rfl) rfl ?_)
          (refine nx (a_len (gN rfl) rfl rfl rfl rfl rfl rfl rfl) rfl ?_)
          (refine nx (a_lss (gN rfl) rfl rfl rfl rfl rfl rfl) rfl ?_)
          (refine nx (aM (gN rfl) rfl rfl rfl rfl rfl) rfl ?_)
          (refine nx (aM (gd_on rfl rfl rfl rfl (by first | rfl | assumption | (simp; done))) rfl rfl rfl rfl rfl) rfl ?_)
          (refine nx (aM (gd_on rfl rfl rfl rfl (by first | rfl | assumption | (simp; done))) rfl rfl rfl rfl rfl) rfl ?_)
          (refine nx (a_index (gd_on rfl rfl rfl rfl (by first | rfl | assumption | (simp; done))) rfl rfl rfl rfl rfl rfl rfl rfl rfl (by assumption) rfl (by first | assumption | exact sZ rfl | exact Tm.size_all _ | exact Bd.size_all _ | exact ints_size _ | exact bys_size _ | exact Lt.size_all _)) rfl ?_)
          (refine nx (a_field_ad (gd_on rfl rfl rfl rfl (by first | rfl | assumption | (simp; done))) rfl rfl rfl rfl rfl rfl rfl rfl rfl rfl rfl) rfl ?_)
          (refine nx (a_load_ad (gd_on rfl rfl rfl rfl (by first | rfl | assumption | (simp; done))) rfl rfl rfl rfl rfl rfl rfl rfl rfl) rfl ?_)
          (refine nx (aM (gd_on rfl rfl rfl rfl (by first | rfl | assumption | (simp; done))) rfl rfl rfl rfl rfl) rfl ?_)
          (refine nx (aM (gd_on rfl rfl rfl rfl (by first | rfl | assumption | (simp; done))) rfl rfl rfl rfl rfl) rfl ?_)
          (refine nx (a_index (gd_on rfl rfl rfl rfl (by first | rfl | assumption | (simp; done))) rfl rfl rfl rfl rfl rfl rfl rfl rfl (by assumption) rfl (by first | assumption | exact sZ rfl | exact Tm.size_all _ | exact Bd.size_all _ | exact ints_size _ | exact bys_size _ | exact Lt.size_all _)) rfl ?_)
          (refine nx (a_field_ad (gd_on rfl rfl rfl rfl (by first | rfl | assumption | (simp; done))) rfl rfl rfl rfl rfl rfl rfl rfl rfl rfl rfl) rfl ?_)
          (refine nx (a_load_ad (gd_on rfl rfl rfl rfl (by first | rfl | assumption | (simp; done))) rfl rfl rfl rfl rfl rfl rfl rfl rfl) rfl ?_)
          (refine nx (a_lss (gd_on rfl rfl rfl rfl (by first | rfl | assumption | (simp; done))) rfl rfl rfl rfl rfl rfl) rfl ?_)
          (refine ⟨_, _, _, aPt (gN rfl) rfl rfl rfl rfl rfl ?hb rfl, rfl, ?_⟩; case hb => (first | rfl | assumption | (simp; done)))
          refine ⟨by kernel_rfl, ?_⟩
          show AWp _ _ _ _ _ _ _
          refine aC rfl (fun hc => ?_) (fun hc => ?_)
          · have hc : z.v < x.v := by simpa using hc
            refine aK ?_
            show AWp _ _ _ _ _ _ _
            refine aB (aR ?_)
            (refine nx (aM (gN rfl) rfl rfl rfl rfl rfl) rfl ?_)
            (refine nx (a_add (gN rfl) rfl rfl rfl rfl rfl rfl (by first | omega | (simp only [List.length_map, List.length_append, List.length_cons, List.length_nil] <;> omega) | (simp <;> omega))) rfl ?_)
            (refine nx (aA (gN rfl) rfl rfl rfl rfl rfl) rfl ?_)
            refine ⟨hjl, fun i c hi hc2 => ?_, wk_sub ⟨rfl, rfl, rfl, rfl, trivial⟩⟩
            rcases Nat.lt_or_ge i j with h | h
            · exact hI i c h hc2
            · have : i = j := by omega
              subst this
              rw [hz] at hc2
              cases hc2
              exact hc
          · have hc : ¬ z.v < x.v := by simpa using hc
            have hle : lessN x.v O = j := lessN_at hI (fun c hc2 => by rw [hz] at hc2; cases hc2; exact hc) hj
            refine aE ?_
            exact wk_sub ⟨rfl, rfl, rfl, by rw [hle]; rfl, trivial⟩
        · have hjl : j = O.length := by omega
          have g : decide ((j : Int) < ((O.map Bd.cv).length : Int)) = false := by simp; omega
          refine aS (aS (aD (by kernel_rfl) (by kernel_rfl) ?_))
          (refine nx (aM (gN rfl) rfl rfl rfl rfl rfl) rfl ?_)
          (refine nx (aM (gN rfl) rfl rfl rfl rfl rfl) rfl ?_)
          (refine nx (a_len (gN rfl) rfl rfl rfl rfl rfl rfl rfl) rfl ?_)
          (refine nx (a_lss (gN rfl) rfl rfl rfl rfl rfl rfl) rfl ?_)
          (refine nx (aM (gN rfl) rfl rfl rfl rfl rfl) rfl ?_)
          (refine ⟨_, _, _, a_off (go_off rfl rfl rfl rfl (by first | rfl | assumption | (simp; done) | (simp [*]; done))) rfl rfl rfl, rfl, ?_⟩)
          (refine ⟨_, _, _, a_off (go_off rfl rfl rfl rfl (by first | rfl | assumption | (simp; done) | (simp [*]; done))) rfl rfl rfl, rfl, ?_⟩)
          (refine ⟨_, _, _, a_off (go_off rfl rfl rfl rfl (by first | rfl | assumption | (simp; done) | (simp [*]; done))) rfl rfl rfl, rfl, ?_⟩)
          (refine ⟨_, _, _, a_off (go_off rfl rfl rfl rfl (by first | rfl | assumption | (simp; done) | (simp [*]; done))) rfl rfl rfl, rfl, ?_⟩)
          (refine ⟨_, _, _, a_off (go_off rfl rfl rfl rfl (by first | rfl | assumption | (simp; done) | (simp [*]; done))) rfl rfl rfl, rfl, ?_⟩)
          (refine ⟨_, _, _, a_off (go_off rfl rfl rfl rfl (by first | rfl | assumption | (simp; done) | (simp [*]; done))) rfl rfl rfl, rfl, ?_⟩)
          (refine ⟨_, _, _, a_off (go_off rfl rfl rfl rfl (by first | rfl | assumption | (simp; done) | (simp [*]; done))) rfl rfl rfl, rfl, ?_⟩)
          (refine ⟨_, _, _, a_off (go_off rfl rfl rfl rfl (by first | rfl | assumption | (simp; done) | (simp [*]; done))) rfl rfl rfl, rfl, ?_⟩)
          (refine ⟨_, _, _, a_off (go_off rfl rfl rfl rfl (by first | rfl | assumption | (simp; done) | (simp [*]; done))) rfl rfl rfl, rfl, ?_⟩)
          (refine ⟨_, _, _, a_off (go_off rfl rfl rfl rfl (by first | rfl | assumption | (simp; done) | (simp [*]; done))) rfl rfl rfl, rfl, ?_⟩)
          (refine ⟨_, _, _, a_off (go_off rfl rfl rfl rfl (by first | rfl | assumption | (simp; done) | (simp [*]; done))) rfl rfl rfl, rfl, ?_⟩)
          (refine ⟨_, _, _, aPf (gN rfl) rfl rfl rfl rfl rfl ?hb rfl, rfl, ?_⟩; case hb => (first | rfl | assumption | (simp; done)))
          refine ⟨by kernel_rfl, ?_⟩
          show AWp _ _ _ _ _ _ _
          refine aC rfl (fun hc => by cases hc) (fun _ => ?_)
          have hle : lessN x.v O = j := lessN_at hI (fun c hc2 => by rw [List.getElem?_eq_none (by omega)] at hc2; cases hc2) hj
          refine aE ?_
          exact wk_sub ⟨rfl, rfl, rfl, by rw [hle]; rfl, trivial⟩
      · obtain ⟨m, hm⟩ : ∃ m, m = lessN x.v O := ⟨_, rfl⟩
        have hml : m ≤ O.length := by rw [hm]; exact lessN_le _ _
        have hml2 : m ≤ (O.map Bd.cv).length := by rw [List.length_map]; exact hml
        have z1 : ∀ c ∈ (O.map Bd.cv).take m, c.size = 3 := fun c hc => hOs c (List.mem_of_mem_take hc)
        have z2 : ∀ c ∈ (O.map Bd.cv).drop m, c.size = 3 := fun c hc => hOs c (List.mem_of_mem_drop hc)
        have z3 : ∀ c ∈ [] ++ (O.map Bd.cv).take m, c.size = 3 := fun c hc => z1 c (by simpa using hc)
        have z4 : ∀ c ∈ ([] ++ (O.map Bd.cv).take m) ++ [x.cw], c.size = 3 := fun c hc => by
          rcases List.mem_append.1 hc with hc | hc
          · exact z3 c hc
          · rw [List.mem_singleton.1 hc]; rfl
        have l1 : ((O.map Bd.cv).take m).length ≤ 1000 := by simp; omega
        have l2 : ((O.map Bd.cv).drop m).length ≤ 1000 := by simp; omega
        refine AWp.wk (wk_sub (s' := [(0, .val (.lst (L.map Bd.cv))), (3, .val (.lst (O.map Bd.cv))), (4, .val (.i k)), (7, .val (.i m))]) ⟨rfl, rfl, rfl, by rw [hm]; rfl, trivial⟩) ?_
        refine aS (aR ?_)
        (refine nx (a_bslice0 (gN rfl) rfl rfl rfl rfl rfl rfl rfl rfl) rfl ?_)
        (refine nx (aM (gN rfl) rfl rfl rfl rfl rfl) rfl ?_)
        (refine nx (aM (gN rfl) rfl rfl rfl rfl rfl) rfl ?_)
        (refine nx (a_upto (gN rfl) rfl rfl rfl rfl rfl rfl rfl rfl rfl (by omega) (by first | assumption | exact sZ rfl | exact Tm.size_all _ | exact Bd.size_all _ | exact ints_size _ | exact bys_size _ | exact Lt.size_all _)) rfl ?_)
        (refine nx (a_app (gN rfl) rfl rfl rfl rfl rfl rfl rfl rfl rfl rfl rfl rfl rfl rfl rfl (by first | assumption | exact sZ rfl | exact Tm.size_all _ | exact Bd.size_all _ | exact ints_size _ | exact bys_size _ | exact Lt.size_all _) (by first | assumption | exact sZ rfl | exact Tm.size_all _ | exact Bd.size_all _ | exact ints_size _ | exact bys_size _ | exact Lt.size_all _) (by first | omega | (simp only [List.length_map, List.length_append, List.length_cons, List.length_nil] <;> omega) | (simp <;> omega))) rfl ?_)
        (refine nx (aA (gN rfl) rfl rfl rfl rfl rfl) rfl ?_)
        show AWp _ _ _ _ _ _ _
        refine aS (aR ?_)
        (refine nx (aM (gN rfl) rfl rfl rfl rfl rfl) rfl ?_)
        (refine nx (aM (gN rfl) rfl rfl rfl rfl rfl) rfl ?_)
        (refine nx (aM (gN rfl) rfl rfl rfl rfl rfl) rfl ?_)
        (refine nx (a_index (gN rfl) rfl rfl rfl rfl rfl rfl rfl rfl rfl (by assumption) rfl (by first | assumption | exact sZ rfl | exact Tm.size_all _ | exact Bd.size_all _ | exact ints_size _ | exact bys_size _ | exact Lt.size_all _)) rfl ?_)
        (refine nx (a_load_ad (gN rfl) rfl rfl rfl rfl rfl rfl rfl rfl rfl) rfl ?_)
        (refine nx (a_bslice (gN rfl) rfl rfl rfl rfl rfl rfl rfl rfl rfl rfl rfl rfl rfl) rfl ?_)
        (refine nx (a_app (gN rfl) rfl rfl rfl rfl rfl rfl rfl rfl rfl rfl rfl rfl rfl rfl rfl (by first | assumption | exact sZ rfl | exact Tm.size_all _ | exact Bd.size_all _ | exact ints_size _ | exact bys_size _ | exact Lt.size_all _) (by first | assumption | exact sZ rfl | exact Tm.size_all _ | exact Bd.size_all _ | exact ints_size _ | exact bys_size _ | exact Lt.size_all _) (by first | omega | (simp only [List.length_map, List.length_append, List.length_cons, List.length_nil] <;> omega) | (simp <;> omega))) rfl ?_)
        (refine nx (aA (gN rfl) rfl rfl rfl rfl rfl) rfl ?_)
        show AWp _ _ _ _ _ _ _
        refine aR ?_
        (refine nx (aM (gN rfl) rfl rfl rfl rfl rfl) rfl ?_)
        (refine nx (aM (gN rfl) rfl rfl rfl rfl rfl) rfl ?_)
        (refine nx (aM (gN rfl) rfl rfl rfl rfl rfl) rfl ?_)
        (refine nx (a_from (gN rfl) rfl rfl rfl rfl rfl rfl rfl rfl rfl (by omega) (by first | assumption | exact sZ rfl | exact Tm.size_all _ | exact Bd.size_all _ | exact ints_size _ | exact bys_size _ | exact Lt.size_all _)) rfl ?_)
        (refine nx (a_app (gN rfl) rfl rfl rfl rfl rfl rfl rfl rfl rfl rfl rfl rfl rfl rfl rfl (by first | assumption | exact sZ rfl | exact Tm.size_all _ | exact Bd.size_all _ | exact ints_size _ | exact bys_size _ | exact Lt.size_all _) (by first | assumption | exact sZ rfl | exact Tm.size_all _ | exact Bd.size_all _ | exact ints_size _ | exact bys_size _ | exact Lt.size_all _) (by first | omega | (simp only [List.length_map, List.length_append, List.length_cons, List.length_nil] <;> omega) | (simp <;> omega))) rfl ?_)
        (refine nx (aA (gN rfl) rfl rfl rfl rfl rfl) rfl ?_)
        show AWp _ _ _ _ _ _ _
        refine aR ?_
        (refine nx (aM (gN rfl) rfl rfl rfl rfl rfl) rfl ?_)
        (refine nx (a_add (gN rfl) rfl rfl rfl rfl rfl rfl (by first | omega | (simp only [List.length_map, List.length_append, List.length_cons, List.length_nil] <;> omega) | (simp <;> omega))) rfl ?_)
        (refine nx (aA (gN rfl) rfl rfl rfl rfl rfl) rfl ?_)
        refine ⟨hil, (wk_sub (s' := [(0, .val (.lst (L.map Bd.cv))), (3, .own (.lst ((rnmF L (k + 1)).map Bd.cv)) 300094), (4, .val (.i ((k + 1 : Nat) : Int)))]) ⟨rfl, ?_, rfl, trivial⟩).trans (wk_plain 3 rfl)⟩
        show some (AV.own (.lst _) _) = some (AV.own (.lst _) _)
        rw [hins]
        unfold insV
        rw [← hm, List.map_append, List.map_append, List.map_take, List.map_drop]
        rfl
  · have hil : i = L.length := by have h : decide ((i : Int) < ((L.map Bd.cv).length : Int)) = false := hlt; simp at h; omega
    subst hil
    refine aE ?_
    show AWp _ _ _ _ _ _ _
    refine aS (aR ?_)
    (refine nx (aM (gN rfl) rfl rfl rfl rfl rfl) rfl ?_)
    (refine nx (aA (gN rfl) rfl rfl rfl rfl rfl) rfl ?_)
    show AWp _ _ _ _ _ _ _
    refine aT ⟨.inr rfl, ?_⟩
    rw [← hO]
    rfl
end Go.Proofs.Ytiammidklcjelaa
